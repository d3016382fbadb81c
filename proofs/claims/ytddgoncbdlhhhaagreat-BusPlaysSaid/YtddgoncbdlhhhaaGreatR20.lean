import Derived.Test.YtddgoncbdlhhhaaGreatR19
import Derived.Deep.AppendSrc
import Derived.Laws.StructEq
import Derived.Deep.RegionHeld3
/- Ranges that are laid behind one another: append of ranges; bulkheadref3.All. Own work. -/
namespace Go.Proofs.YtddgoncbdlhhhaaGreat
open Go.RowKit Go.Maps Go.Proofs.YtddgoncbdlhhhaaGreat.Sp
/-- a row of ranges that is owned from base on -/
def OwnRg (w : World) (base : Nat) (v : Value) (xs : List Sp) : Prop := w.ownsRow base 55 2 v xs.length (U64.encs xs)
theorem OwnRg.sv {w : World} {base : Nat} {v : Value} {xs : List Sp} (h : OwnRg w base v xs) : U64.SV w v xs := by
  rcases h.2 with ⟨rfl, h0⟩ | ⟨g, cap, cur, rfl, hb, hg, hnc, hcm, hcs, ht⟩
  · obtain rfl := List.eq_nil_of_length_eq_zero h0
    exact U64.SV.nil w
  · refine ⟨_, cap, rfl, hnc, hcm, fun e => (by cases e), fun a e => (by cases e; exact ⟨g, 0, rfl, (Array.getElem?_eq_some_iff.1 hg).1⟩), fun j hj => ⟨g, 0, rfl, ?_, ?_⟩⟩
    · rw [Nat.zero_add, cell_of_row w g (j * 2) _ _ _ hg, ← Array.getElem?_toList, ← U64.encs_get0 xs j hj, ← ht, List.getElem?_take_of_lt (by omega)]
    · rw [Nat.zero_add, cell_of_row w g (j * 2 + 1) _ _ _ hg, ← Array.getElem?_toList, ← U64.encs_get1 xs j hj, ← ht, List.getElem?_take_of_lt (by omega)]
theorem OwnRg.nil (w : World) (base : Nat) : OwnRg w base (.slice none 0 0) [] := ⟨rfl, .inl ⟨rfl, rfl⟩⟩
theorem OwnRg.form {w : World} {base : Nat} {v : Value} {xs : List Sp} (h : OwnRg w base v xs) : ∃ a c, v = .slice a xs.length c ∧ ∀ j, v.ownBlock = some j → base ≤ j := by
  rcases h.2 with ⟨rfl, h0⟩ | ⟨g, cap, cur, rfl, hb, _⟩
  · exact ⟨none, 0, by rw [h0], fun j e => by cases e⟩
  · exact ⟨_, cap, rfl, fun j e => by cases e; exact hb⟩
theorem sv_cells {w : World} {b o : Nat} {n c : Nat} {xs : List Sp} (h : U64.SV w (.slice (some ⟨b, o, none⟩) n c) xs) (j : Nat) (u : Value) (hj : (U64.encs xs)[j]? = some u) : w.cell? (Addr.add ⟨b, o, none⟩ j) = some u := by
  obtain ⟨ao, cap, e, h1, h2, h3, h9, h4⟩ := h
  have hjl : j < xs.length * 2 := by have := (List.getElem?_eq_some_iff.1 hj).1; rw [U64.encs_length] at this; exact this
  obtain ⟨b', o', e', c0, c1⟩ := h4 (j / 2) (by omega)
  rw [e'] at e
  cases e
  rw [Addr.add_lit]
  rcases (by omega : j % 2 = 0 ∨ j % 2 = 1) with e | e
  · rw [show j = j / 2 * 2 by omega, U64.encs_get0 xs (j / 2) (by omega)] at hj
    rw [show j = j / 2 * 2 by omega, c0]
    exact hj
  · rw [show j = j / 2 * 2 + 1 by omega, U64.encs_get1 xs (j / 2) (by omega)] at hj
    rw [show j = j / 2 * 2 + 1 by omega, ← Nat.add_assoc, c1]
    exact hj
/-- ranges are laid behind a row that is owned -/
theorem run_appR {w : World} {base : Nat} {v l : Value} {xs ys : List Sp} (ty : TypeId) (hv : OwnRg w base v xs) (hl : U64.SV w l ys) (hlen : xs.length + ys.length ≤ 8796093022208) (hbase : base ≤ w.heap.size) :
    ∃ v' w', (Builtin.append_ #[22, 22] ty #[v, l]).run Tryz.prog w = .ok v' w' ∧ OwnRg w' base v' (xs ++ ys) ∧ w.grownBy w' v.ownBlock := by
  obtain ⟨i, hi, hz0, hz1, hz2⟩ := info_parts info_rg
  have hl' := hl
  obtain ⟨ao, cap, rfl, h1, h2, h3, h9, h4⟩ := hl'
  cases ao with
  | none =>
    obtain ⟨rfl, rfl⟩ := h3 rfl
    rw [List.append_nil]
    rcases id hv.2 with ⟨rfl, h0⟩ | ⟨g, cap, cur, rfl, hb, hg, hnc, hcm, hcs, ht⟩
    · refine ⟨.slice none 0 0, w, ?_, hv, ⟨rfl, rfl, rfl, Nat.le_refl _, fun _ _ _ => rfl⟩⟩
      simp [Builtin.append_, run_underlying Tryz.underlying22, sizeOf, typeInfo, hi, Builtin.lenOf, Builtin.firstCells]
    · refine ⟨_, w, ?_, hv, ⟨rfl, rfl, rfl, Nat.le_refl _, fun _ _ _ => rfl⟩⟩
      have := run_append_room_src (P := Tryz.prog) w 22 22 ty 55 i Tryz.underlying22 hi g 0 xs.length cap (.slice none 0 0) 0 [] (Src.ofNil w Tryz.underlying22 0) (by omega) (fun j hj => absurd hj (by simp)) (fun j hj => absurd hj (by simp))
      exact this
  | some a =>
    obtain ⟨b, o, rfl, hlt⟩ := h9 a rfl
    obtain ⟨v', w', r1, r2, r3, _⟩ := run_append_own_at (P := Tryz.prog) w base 22 ty 55 i _ 2 _ Tryz.underlying22 hi hz0 hz1 hz2 rfl (by omega) v xs.length (U64.encs xs) hv ⟨b, o, none⟩ ys.length cap (U64.encs ys) (by rw [U64.encs_length]) (fun j u hj => sv_cells hl j u hj) (U64.encs_one ys) (by unfold maxLen; omega) (by omega) hbase
    refine ⟨v', w', r1, ?_, r3⟩
    unfold OwnRg
    rw [List.length_append, U64.encs_append]
    exact r2
theorem wpList_appR {w : World} {base : Nat} {ops : Array Oper} {rest : List Oper} {o : Oper} {a : Act} {Q : Exit → Act → World → Prop} (hgd : o.guard = none) (s x : Operand)
    (ho : o.op = .call { callee := .builtin .append, args := #[s, x], argTypes := #[22, 22] }) {v l : Value} {xs ys : List Sp} (hs : a.eval s = v) (hx : a.eval x = l) (hv : OwnRg w base v xs) (hl : U64.SV w l ys) (hlen : xs.length + ys.length ≤ 8796093022208) (hbase : base ≤ w.heap.size)
    (h : ∀ va vn vc w', Hid (OwnRg w' base (.slice va vn vc) (xs ++ ys)) → Hid (w.grownBy w' v.ownBlock) → wpList Tryz.prog ops Q rest (a.put o.dst (.slice va vn vc)) w') : wpList Tryz.prog ops Q (o :: rest) a w := by
  refine wpList_plain hgd fun K hK => ?_
  obtain ⟨v', w', hr, h2, h3⟩ := run_appR o.type hv hl hlen hbase
  obtain ⟨va, vc, rfl, _⟩ := h2.form
  unfold Oper.wp
  simp only [execOp, ho, resolve, invoke, builtin, Sem.run_bind, Sem.run_pure, List.map_toArray, List.map_cons, List.map_nil, hs, hx, hr, Result.andThen_ok]
  exact hK _ _ (h va _ vc w' h2 h3)
set_option maxRecDepth 100000 in
set_option maxHeartbeats 2000000 in
theorem all_any {w : World} {vr vd : Value} {rs ds : List Sp} (hr : U64.SV w vr rs) (hd : U64.SV w vd ds) (hl : rs.length + ds.length ≤ 8796093022208) :
    Calls Tryz.prog 44 #[.agg #[vr, vd]] w fun e w' => ∃ a n c, e = .returned (.slice a n c) ∧ Hid (Below w.heap.size w w') ∧ Hid (U64.SV w' (.slice a n c) (rs ++ ds)) ∧ Hid (∀ j, (Value.slice a n c).ownBlock = some j → w.heap.size ≤ j) := by
  have HB0 : Hid (Below w.heap.size w (w.alloc (Obj.cells #[vr, vd] 24))) := (Below.refl _ _).alloc (Nat.le_refl _) _
  have HR1 : Hid (U64.SV (w.alloc (Obj.cells #[vr, vd] 24)) vr rs) := hr.below HB0.out (Nat.le_refl _)
  have HD1 : Hid (U64.SV (w.alloc (Obj.cells #[vr, vd] 24)) vd ds) := hd.below HB0.out (Nat.le_refl _)
  have HX : Hid ((w.alloc (Obj.cells #[vr, vd] 24)).cell? ⟨w.heap.size, 1, none⟩ = some vd) := (U64.new2 rfl vr vd _).2
  clear hr hd
  go_enter Tryz.func44, Tryz.ntmps44
  go_wp2_with (refine wpList_appR rfl (.const (.slice none 0 0)) (.tmp 5) rfl (base := w.heap.size) rfl rfl (OwnRg.nil _ _) HR1.out (by simp; omega) (by simp) ?_)
  intro a1 n1 c1 w1 HO1 HG1
  have HB1 : Hid (Below (w.heap.size + 1) (w.alloc (Obj.cells #[vr, vd] 24)) w1) := below_grown HG1.out (by simp) (fun k e => by cases e)
  have x1 : w1.cell? ⟨w.heap.size, 1, none⟩ = some vd := (HB1.out.cell (p := ⟨w.heap.size, 1, none⟩) (Nat.lt_succ_self _)).trans HX.out
  have HD2 : Hid (U64.SV w1 vd ds) := HD1.out.below HB1.out (by simp)
  have HO2 : Hid (OwnRg w1 w.heap.size (.slice a1 n1 c1) rs) := HO1.out
  have HZ1 : Hid (w.heap.size ≤ w1.heap.size) := Nat.le_trans (by simp) HG1.out.size
  have HBw : Hid (Below w.heap.size w w1) := HB0.out.trans (HB1.out.mono (Nat.le_succ _))
  clear HO1 HG1 HR1 HD1 HX HB0 HB1
  go_wp2_with (refine wpList_appR rfl (.tmp 7) (.tmp 9) rfl (base := w.heap.size) rfl rfl HO2.out HD2.out (by omega) HZ1.out ?_)
  intro a2 n2 c2 w2 HO3 HG2
  have HB2 : Hid (Below w.heap.size w w2) := HBw.out.grown HG2.out HZ1.out (fun k e => by obtain ⟨_, _, _, h⟩ := HO2.out.form; exact h k e)
  clear HG2
  go_wp2_with fail
  go_ret
  exact ⟨a2, n2, c2, rfl, HB2, HO3.out.sv, fun j e => by obtain ⟨_, _, _, h⟩ := HO3.out.form; exact h j e⟩
/-- have two ranges no byte in common? -/
def apartB (a s b t : Int) : Bool := decide (a + s ≤ b ∨ b + t ≤ a)
set_option maxHeartbeats 1000000 in
theorem apart_any {a s b t : Int} (w : World) (ha : 0 ≤ a ∧ 0 ≤ s ∧ a + s ≤ 4294967296) (hb : 0 ≤ b ∧ 0 ≤ t ∧ b + t ≤ 4294967296) :
    Calls Tryz.prog 45 #[.agg #[.int .u64 a, .int .u64 s], .agg #[.int .u64 b, .int .u64 t]] w fun e w' => e = .returned (.bool (apartB a s b t)) ∧ Hid (Below w.heap.size w w') := by
  obtain ⟨a0, a1, a2⟩ := ha
  obtain ⟨b0, b1, b2⟩ := hb
  have HB : Hid (∀ X Y, Below w.heap.size w ((w.alloc X).alloc Y)) := fun X Y => ((Below.refl _ _).alloc (Nat.le_refl _) _).alloc (by simp) _
  by_cases h1 : a + s ≤ b
  · have HE : Hid (apartB a s b t = true) := decide_eq_true (.inl h1)
    go_enter Tryz.func45, Tryz.ntmps45
    go_wp2
    go_ret
    exact ⟨by rw [HE.out]; rfl, HB.out _ _⟩
  · by_cases h2 : b + t ≤ a
    · have HE : Hid (apartB a s b t = true) := decide_eq_true (.inr h2)
      go_enter Tryz.func45, Tryz.ntmps45
      go_wp2
      go_ret
      exact ⟨by rw [HE.out]; rfl, HB.out _ _⟩
    · have HE : Hid (apartB a s b t = false) := decide_eq_false (by omega)
      go_enter Tryz.func45, Tryz.ntmps45
      go_wp2
      go_ret
      exact ⟨by rw [HE.out]; rfl, HB.out _ _⟩
end Go.Proofs.YtddgoncbdlhhhaaGreat
/- Clone of ranges, twin, Bus, Clone of a machine: the rows are owned (written by parts/gen_bo.py off BNew, BClone). Own work. -/
namespace Go.Proofs.YtddgoncbdlhhhaaGreat
open Go.RowKit Go.Maps Go.Shelf Go.Proofs.YtddgoncbdlhhhaaGreat.Sp
theorem OwnRg.lt {w : World} {base : Nat} {v : Value} {xs : List Sp} (h : OwnRg w base v xs) : ∀ k, v.ownBlock = some k → base ≤ k ∧ k < w.heap.size := World.ownsRow.lt h
theorem OwnRg.keeps {S : Nat → Prop} {w w' : World} {base : Nat} {v : Value} {xs : List Sp} (h : OwnRg w base v xs) (hk : Keeps S w w') (hn : ∀ k, v.ownBlock = some k → ¬ S k) : OwnRg w' base v xs := by
  refine ⟨h.1, ?_⟩
  rcases h.2 with h2 | ⟨g, cap, cur, rfl, hb, hg, r⟩
  · exact .inl h2
  · exact .inr ⟨g, cap, cur, rfl, hb, by rw [hk.block g (Array.getElem?_eq_some_iff.1 hg).1 (hn g rfl)]; exact hg, r⟩
theorem OwnRg.below {w w' : World} {base : Nat} {v : Value} {xs : List Sp} (h : OwnRg w base v xs) (hb : Below w.heap.size w w') : OwnRg w' base v xs := h.keeps (Keeps.of_below (S := fun _ => False) hb) (fun _ _ e => e)
theorem OwnRg.weak {w : World} {b1 b2 : Nat} {v : Value} {xs : List Sp} (h : OwnRg w b1 v xs) (hb : b2 ≤ b1) : OwnRg w b2 v xs := by
  refine ⟨h.1, ?_⟩
  rcases h.2 with h2 | ⟨g, cap, cur, rfl, hb', r⟩
  · exact .inl h2
  · exact .inr ⟨g, cap, cur, rfl, Nat.le_trans hb hb', r⟩
theorem OwnRg.tag {w : World} {base : Nat} {v : Value} {xs : List Sp} (h : OwnRg w base v xs) : ∀ k, v.ownBlock = some k → ∃ cur, w.heap[k]? = some (.cells cur 55 (0, 0)) := by
  rcases h.2 with ⟨rfl, _⟩ | ⟨g, cap, cur, rfl, hb, hg, _⟩
  · intro k hk; cases hk
  · intro k hk
    cases hk
    exact ⟨cur, hg⟩
theorem rclone_o {w : World} {v : Value} {xs : List Sp} (hv : U64.SV w v xs) (hl : xs.length ≤ 1099511627776) :
    Calls Tryz.prog 82 #[v] w fun e w' => ∃ a n c, e = .returned (.slice a n c) ∧ Below w.heap.size w w' ∧ Hid (OwnRg w' w.heap.size (.slice a n c) xs) := by
  obtain ⟨ao, cap, rfl, h1, h2, h3, h4, h5⟩ := hv
  cases ao with
  | none =>
    obtain ⟨rfl, rfl⟩ := h3 rfl
    have := AnyE.slices_Clone_nil cloneRange 0 0 w
    refine Calls.mono this ?_
    rintro e w' ⟨rfl, rfl⟩
    exact ⟨none, 0, 0, rfl, Below.refl _ _, OwnRg.nil _ _⟩
  | some a =>
    obtain ⟨g, off, rfl, hg⟩ := h4 _ rfl
    obtain ⟨i, hi, hz0, hz1, hz2⟩ := info_parts info_range
    have := AnyE.slices_Clone cloneRange i (.agg #[.int .u64 0, .int .u64 0]) 2 16 hi hz0 hz1 hz2 rfl (by omega) Tryz.sizeOf55 g off xs.length cap (U64.encs xs) w (U64.encs_length xs) (by unfold maxLen; omega) (by omega) (fun j u hj => by
      have hjl : j < xs.length * 2 := by rw [← U64.encs_length]; exact (List.getElem?_eq_some_iff.1 hj).1
      obtain ⟨g', off', e', d0, d1⟩ := h5 (j / 2) (by omega)
      cases e'
      rcases Nat.mod_two_eq_zero_or_one j with q | q
      · have := U64.encs_get0 xs (j / 2) (by omega)
        rw [show j / 2 * 2 = j by omega] at this d0
        rw [d0, ← this, hj]
      · have := U64.encs_get1 xs (j / 2) (by omega)
        rw [show j / 2 * 2 + 1 = j by omega] at this
        rw [show off + j / 2 * 2 + 1 = off + j by omega] at d1
        rw [d1, ← this, hj]) (U64.encs_one xs)
    refine Calls.mono this ?_
    rintro e w' ⟨v', rfl, ho, _, hb⟩
    rcases ho.2 with ⟨rfl, h0⟩ | ⟨g2, cap2, cur, rfl, hb2, hg2, hnc, hcm, hcs, ht⟩
    · obtain rfl : xs = [] := List.eq_nil_of_length_eq_zero h0
      exact ⟨none, 0, 0, rfl, hb, OwnRg.nil _ _⟩
    · exact ⟨_, _, _, rfl, hb, ho⟩
set_option maxRecDepth 100000 in
set_option maxHeartbeats 8000000 in
theorem twin_o {w : World} {vr vd : Value} {rs ds : List Sp} (hr : U64.SV w vr rs) (hd : U64.SV w vd ds) (hl : rs.length ≤ 1099511627776) (hl2 : ds.length ≤ 1099511627776) :
    Calls Tryz.prog 42 #[.agg #[vr, vd]] w fun e w' => ∃ a n c a2 n2 c2, e = .returned (.agg #[.slice a n c, .slice a2 n2 c2]) ∧ Below w.heap.size w w' ∧ Hid (OwnRg w' w.heap.size (.slice a n c) rs ∧ OwnRg w' w.heap.size (.slice a2 n2 c2) ds ∧ ∀ j, (Value.slice a n c).ownBlock = some j → (Value.slice a2 n2 c2).ownBlock ≠ some j) := by
  have HR : Hid (∀ W, Below w.heap.size w W → Calls Tryz.prog 82 #[vr] W fun e w' => ∃ a n c, e = .returned (.slice a n c) ∧ Below W.heap.size W w' ∧ Hid (OwnRg w' W.heap.size (.slice a n c) rs)) := fun W hW => rclone_o (hr.below hW (Nat.le_refl _)) hl
  have HD : Hid (∀ W, Below w.heap.size w W → Calls Tryz.prog 82 #[vd] W fun e w' => ∃ a n c, e = .returned (.slice a n c) ∧ Below W.heap.size W w' ∧ Hid (OwnRg w' W.heap.size (.slice a n c) ds)) := fun W hW => rclone_o (hd.below hW (Nat.le_refl _)) hl2
  clear hr hd
  go_enter Tryz.func42, Tryz.ntmps42
  go_wp2_with fail
  obtain ⟨W2, hW2⟩ : ∃ W2, (w.alloc (Obj.cells #[vr, vd] 24)).alloc (Obj.cells #[.slice none 0 0, .slice none 0 0] 24) = W2 := ⟨_, rfl⟩
  have HB2 : Hid (Below w.heap.size w W2) := hW2 ▸ ((Below.refl _ _).alloc (Nat.le_refl _) _).alloc (by simp) _
  have HX2 : Hid (BoxB W2 w.heap.size vr vd) := hW2 ▸ (show BoxB (w.alloc (Obj.cells #[vr, vd] 24)) w.heap.size vr vd from heap_alloc_new w _).below ((Below.refl _ _).alloc (Nat.le_refl _) _)
  have HY2 : Hid (BoxB W2 (w.heap.size + 1) (.slice none 0 0) (.slice none 0 0)) := by
    have := heap_alloc_new (w.alloc (Obj.cells #[vr, vd] 24)) (Obj.cells #[.slice none 0 0, .slice none 0 0] 24)
    rw [show (w.alloc (Obj.cells #[vr, vd] 24)).heap.size = w.heap.size + 1 by simp, hW2] at this
    exact this
  rw [hW2]
  clear hW2
  obtain ⟨x0, x1, _, _⟩ := HX2.out.cells
  have HC1 : Hid (Calls Tryz.prog 82 #[vr] W2.drew fun e w' => ∃ a n c, e = .returned (.slice a n c) ∧ (w'.cell? ⟨w.heap.size, 0, none⟩ = some vr ∧ w'.cell? ⟨w.heap.size, 1, none⟩ = some vd) ∧ Hid (Below W2.heap.size W2 w') ∧ Hid (OwnRg w' W2.heap.size (.slice a n c) rs)) := by
    refine (HR.out _ HB2.out.drew).mono ?_
    rintro e w' ⟨a, n, c, rfl, hb, h⟩
    have hb' : Below W2.heap.size W2 w' := ⟨hb.os, hb.tape, hb.output, hb.size, hb.block⟩
    obtain ⟨y0, y1, _⟩ := (HX2.out.below hb').cells
    exact ⟨a, n, c, rfl, ⟨y0, y1⟩, hb', h⟩
  have HC2 : Hid (∀ w3, Below W2.heap.size W2 w3 → Calls Tryz.prog 82 #[vd] w3 fun e w' => ∃ a n c, e = .returned (.slice a n c) ∧ (w'.cell? ⟨w.heap.size, 0, none⟩ = some vr ∧ w'.cell? ⟨w.heap.size, 1, none⟩ = some vd) ∧ (w'.cell? ⟨w.heap.size + 1, 0, none⟩ = some (.slice none 0 0) ∧ w'.cell? ⟨w.heap.size + 1, 1, none⟩ = some (.slice none 0 0) ∧ w'.frozen? ⟨w.heap.size + 1, 0, none⟩ = false ∧ w'.frozen? ⟨w.heap.size + 1, 1, none⟩ = false) ∧ Hid (Below w3.heap.size w3 w') ∧ Hid (OwnRg w' w3.heap.size (.slice a n c) ds)) := fun w3 hb3 => by
    refine (HD.out _ (HB2.out.trans (hb3.mono HB2.out.size))).mono ?_
    rintro e w' ⟨a, n, c, rfl, hb, h⟩
    have hb' : Below W2.heap.size W2 w' := hb3.trans (hb.mono hb3.size)
    obtain ⟨y0, y1, _⟩ := (HX2.out.below hb').cells
    exact ⟨a, n, c, rfl, ⟨y0, y1⟩, (HY2.out.below hb').cells, hb, h⟩
  have hne : w.heap.size + 1 ≠ w.heap.size := by omega
  go_region_held3 (fun w' => w'.cell? ⟨w.heap.size, 0, none⟩ = some vr ∧ w'.cell? ⟨w.heap.size, 1, none⟩ = some vd) (go_keep) (first | (go_at_call 82; first | (refine HC1.out.mono ?_; rintro e w3 ⟨a, n, c, rfl, ⟨d0, d1⟩, HB3, HS3⟩) | (refine (HC2.out _ HB3.out).mono ?_; rintro e w4 ⟨a2, n2, c2, rfl, ⟨f0, f1⟩, ⟨k0, k1, k2, k3⟩, HB4, HS4⟩)))
  go_wp2_with fail
  have hY4 : BoxB w4 (w.heap.size + 1) (.slice none 0 0) (.slice none 0 0) := HY2.out.below (HB3.out.trans (HB4.out.mono HB3.out.size))
  obtain ⟨d0, d1, _⟩ := (hY4.set (.slice a n c) (.slice a2 n2 c2)).cells
  refine bodyPost_ret (v := .agg #[.slice a n c, .slice a2 n2 c2]) (by simp [results, Tryz.results42, go_sem, d0, d1]) rfl ?_
  have hlt := HY2.out.lt
  have h3 := HB3.out.size
  have h2 := HB2.out.size
  have hk := Keeps.two' w4 (w.heap.size + 1) (.slice a n c) (.slice a2 n2 c2)
  refine ⟨a, n, c, a2, n2, c2, rfl, ((HB2.out.trans ((HB3.out.trans (HB4.out.mono HB3.out.size)).mono HB2.out.size)).setCell (p := ⟨w.heap.size + 1, 0, none⟩) (show w.heap.size ≤ w.heap.size + 1 by omega) _).setCell (p := ⟨w.heap.size + 1, 1, none⟩) (show w.heap.size ≤ w.heap.size + 1 by omega) _, ((HS3.out.below HB4.out).keeps hk (fun j e e' => ?_)).weak h2, (HS4.out.keeps hk (fun j e e' => ?_)).weak (by omega), fun j e e' => ?_⟩
  · have := (HS3.out.lt j e).1; omega
  · have := (HS4.out.lt j e).1; omega
  · have := (HS3.out.lt j e).2
    have := (HS4.out.lt j e').1
    omega
/-- what a clone is -/
def CloneO (w : World) (V : Value × Value × Value) (M : Nat → Nat) (rs ds : List Sp) (e : Ending) (w' : World) : Prop :=
  ∃ m' B' V' T', e = .returned (.pointer (some ⟨m', 0, none⟩)) ∧ Below w.heap.size w w' ∧ Mac w' m' B' V' T' M rs ds 0 0 0 ∧ V'.2.2 = V.2.2 ∧ w.heap.size ≤ m' ∧ (∀ j, Foot B' T' j → w.heap.size ≤ j) ∧ OwnRg w' w.heap.size V'.1 rs ∧ OwnRg w' w.heap.size V'.2.1 ds
set_option maxRecDepth 100000 in
set_option maxHeartbeats 8000000 in
theorem clone_o {w : World} {m B : Nat} {V : Value × Value × Value} {T : Nat → Option Nat} {M : Nat → Nat} {rs ds : List Sp} {L S X : Nat} (h : Mac w m B V T M rs ds L S X) (hl : rs.length ≤ 1099511627776) (hl2 : ds.length ≤ 1099511627776) :
    Calls Tryz.prog 67 #[.pointer (some ⟨m, 0, none⟩)] w (CloneO w V M rs ds) := by
  have HM : Hid (Mac w m B V T M rs ds L S X) := h
  obtain ⟨s1, s2, x3, x4, x5⟩ := h.rows
  have x6 := h.cells.2.2.2.1
  obtain ⟨vr, vd, vg⟩ := V
  obtain ⟨ar, cr, hvr, _⟩ := id s1
  obtain ⟨ad, cd, hvd, _⟩ := id s2
  have hvr : vr = .slice ar rs.length cr := hvr
  have hvd : vd = .slice ad ds.length cd := hvd
  subst hvr hvd
  obtain ⟨G, _, _, _, s5, _⟩ := id h
  obtain ⟨ag, cg, hvg, _⟩ := id s5
  have hvg : vg = .slice ag G.length cg := hvg
  subst hvg
  clear s5 h
  dsimp only at x3 x4 x5 s1 s2
  have HTw : Hid (∀ W, Below w.heap.size w W → Calls Tryz.prog 42 #[.agg #[.slice ar rs.length cr, .slice ad ds.length cd]] W fun e w' => ∃ a n c a2 n2 c2, e = .returned (.agg #[.slice a n c, .slice a2 n2 c2]) ∧ (w'.cell? ⟨m, 3, none⟩ = some (.slice ar rs.length cr) ∧ w'.cell? ⟨m, 4, none⟩ = some (.slice ad ds.length cd) ∧ w'.cell? ⟨m, 5, none⟩ = some (.slice ag G.length cg) ∧ w'.cell? ⟨m, 6, none⟩ = some (.map (some B))) ∧ Hid (Below w.heap.size w w') ∧ Hid (OwnRg w' w.heap.size (.slice a n c) rs ∧ OwnRg w' w.heap.size (.slice a2 n2 c2) ds)) := fun W hW => by
    refine (twin_o (s1.below hW (Nat.le_refl _)) (s2.below hW (Nat.le_refl _)) hl hl2).mono ?_
    rintro e w' ⟨a, n, c, a2, n2, c2, rfl, hb, h1, h2, h3⟩
    have hb' := hW.trans (hb.mono hW.size)
    have hm' := HM.out.below hb'
    obtain ⟨_, _, k3, k4, k5⟩ := hm'.rows
    exact ⟨a, n, c, a2, n2, c2, rfl, ⟨k3, k4, k5, hm'.cells.2.2.2.1⟩, hb', h1.weak hW.size, h2.weak hW.size⟩
  have HPt : Hid (∀ W, Below w.heap.size w W → Calls Tryz.prog 92 #[.map (some B)] W fun e w' => ∃ B', e = .returned (.map (some B')) ∧ (w'.cell? ⟨m, 3, none⟩ = some (.slice ar rs.length cr) ∧ w'.cell? ⟨m, 4, none⟩ = some (.slice ad ds.length cd) ∧ w'.cell? ⟨m, 5, none⟩ = some (.slice ag G.length cg) ∧ w'.cell? ⟨m, 6, none⟩ = some (.map (some B))) ∧ Hid (Below W.heap.size W w' ∧ ∃ T', Held w' B' T' M ∧ ∀ j, Foot B' T' j → W.heap.size ≤ j)) := fun W hW => by
    refine (ptwin_any (HM.out.below hW).held).mono ?_
    rintro e w' ⟨B', T', rfl, h1, hb, h2⟩
    have hm' := HM.out.below (hW.trans (hb.mono hW.size))
    obtain ⟨_, _, k3, k4, k5⟩ := hm'.rows
    exact ⟨B', rfl, ⟨k3, k4, k5, hm'.cells.2.2.2.1⟩, hb, T', h1, h2⟩
  clear s1 s2
  go_enter Tryz.func67, Tryz.ntmps67
  go_wp2_with fail
  go_region_held3 (fun w' => w'.cell? ⟨m, 3, none⟩ = some (.slice ar rs.length cr) ∧ w'.cell? ⟨m, 4, none⟩ = some (.slice ad ds.length cd) ∧ w'.cell? ⟨m, 5, none⟩ = some (.slice ag G.length cg) ∧ w'.cell? ⟨m, 6, none⟩ = some (.map (some B))) (go_keep) (first | (go_at_call 42; refine (HTw.out _ (Below.refl _ _).drew).mono ?_; rintro e w7 ⟨a7, n7, c7, a8, n8, c8, rfl, ⟨k3, k4, k5, k6⟩, HB7, HS7⟩) | (go_at_call 92; refine (HPt.out _ HB7.out).mono ?_; rintro e w8 ⟨B', rfl, ⟨j3, j4, j5, j6⟩, HS8⟩))
  go_wp2_with fail
  go_ret
  obtain ⟨s3, s4⟩ := HS7.out
  have s1 := s3.sv
  have s2 := s4.sv
  obtain ⟨hb8, T', hh, hf⟩ := HS8.out
  have z7 := HB7.out.size
  have z8 := hb8.size
  have hb9 : Below w8.heap.size w8 (w8.alloc (Obj.cells #[.int .i64 0, .int .i64 0, .int .i64 0, .slice a7 n7 c7, .slice a8 n8 c8, .slice ag G.length cg, .map (some B')] 110)) := (Below.refl _ _).alloc (Nat.le_refl _) _
  have hb79 := hb8.trans (hb9.mono z8)
  have hbw := HB7.out.trans (hb79.mono z7)
  obtain ⟨G2, _, _, _, g3, g4, g5, g6, g7, _, _, _⟩ := HM.out
  have q1 := fun j e => sv_lt s1 j e
  have q2 := fun j e => sv_lt s2 j e
  have q3 := fun j e => sv_lt g3 j e
  have hfl := fun j hj => hh.foot_lt (j := j) hj
  refine ⟨w8.heap.size, B', (.slice a7 n7 c7, .slice a8 n8 c8, .slice ag G.length cg), T', rfl, hbw, ⟨G2, heap_alloc_new w8 _, s1.below hb79 (Nat.le_refl _), s2.below hb79 (Nat.le_refl _), g3.below hbw (Nat.le_refl _), g4, g5, g6, g7, hh.below hb9, fun hj => by have := hfl _ hj; omega, fun v hv j e => ?_⟩, rfl, by omega, fun j hj => by have := hf j hj; omega, s3.below hb79, s4.below hb79⟩
  · rcases hv with rfl | rfl | rfl
    · have h1 := q1 j e
      exact ⟨fun hj => (by have := hf j hj; omega), by omega⟩
    · have h1 := q2 j e
      exact ⟨fun hj => (by have := hf j hj; omega), by omega⟩
    · have h1 := q3 j e
      exact ⟨fun hj => (by have := hf j hj; omega), by omega⟩
set_option maxRecDepth 100000 in
set_option maxHeartbeats 8000000 in
theorem bus_o {w : World} {m B : Nat} {V : Value × Value × Value} {T : Nat → Option Nat} {M : Nat → Nat} {rs ds : List Sp} {L S X : Nat} (h : Mac w m B V T M rs ds L S X) (hl : rs.length ≤ 1099511627776) (hl2 : ds.length ≤ 1099511627776) :
    Calls Tryz.prog 64 #[.pointer (some ⟨m, 0, none⟩)] w fun e w' => ∃ a n c a2 n2 c2, e = .returned (.agg #[.slice a n c, .slice a2 n2 c2]) ∧ Hid (Below w.heap.size w w') ∧ Hid (OwnRg w' w.heap.size (.slice a n c) rs ∧ OwnRg w' w.heap.size (.slice a2 n2 c2) ds ∧ ∀ j, (Value.slice a n c).ownBlock = some j → (Value.slice a2 n2 c2).ownBlock ≠ some j) := by
  obtain ⟨s1, s2, x3, x4, x5⟩ := h.rows
  obtain ⟨vr, vd, vg⟩ := V
  obtain ⟨ar, cr, hvr, _⟩ := id s1
  obtain ⟨ad, cd, hvd, _⟩ := id s2
  have hvr : vr = .slice ar rs.length cr := hvr
  have hvd : vd = .slice ad ds.length cd := hvd
  subst hvr hvd
  dsimp only at x3 x4 s1 s2
  have hb1 : Below w.heap.size w (w.alloc (.cells #[.slice none 0 0, .slice none 0 0] 24)) := (Below.refl _ _).alloc (Nat.le_refl _) _
  have HB1 : Hid (Below w.heap.size w (w.alloc (.cells #[.slice none 0 0, .slice none 0 0] 24))) := hb1
  have HTw : Hid (Calls Tryz.prog 42 #[.agg #[.slice ar rs.length cr, .slice ad ds.length cd]] (w.alloc (.cells #[.slice none 0 0, .slice none 0 0] 24)) fun e w' => ∃ a n c a2 n2 c2, e = .returned (.agg #[.slice a n c, .slice a2 n2 c2]) ∧ Hid (BoxB w' w.heap.size (.slice none 0 0) (.slice none 0 0)) ∧ Hid (Below w.heap.size w w') ∧ Hid (OwnRg w' (w.heap.size + 1) (.slice a n c) rs ∧ OwnRg w' (w.heap.size + 1) (.slice a2 n2 c2) ds ∧ ∀ j, (Value.slice a n c).ownBlock = some j → (Value.slice a2 n2 c2).ownBlock ≠ some j)) := by
    refine (twin_o (s1.below hb1 (Nat.le_refl _)) (s2.below hb1 (Nat.le_refl _)) hl hl2).mono ?_
    rintro e w' ⟨a, n, c, a2, n2, c2, rfl, hb, h1, h2, h3⟩
    refine ⟨a, n, c, a2, n2, c2, rfl, (show BoxB _ w.heap.size _ _ from heap_alloc_new w _).below hb, hb1.trans (hb.mono hb1.size), h1.weak (by simp), h2.weak (by simp), h3⟩
  obtain ⟨_, _, y3, y4, _⟩ := (h.below hb1).rows
  dsimp only at y3 y4
  clear s1 s2 h hb1
  go_enter Tryz.func64, Tryz.ntmps64
  go_wp2_with fail
  refine HTw.out.mono ?_
  rintro e w4 ⟨a, n, c, a2, n2, c2, rfl, HY4, HB4, HS4⟩
  obtain ⟨d0, d1, d2, d3⟩ := HY4.out.cells
  clear HTw y3 y4
  go_wp2_with fail
  clear d0 d1 d2 d3
  obtain ⟨d0, d1, _⟩ := (HY4.out.set (.slice a n c) (.slice a2 n2 c2)).cells
  refine bodyPost_ret (v := .agg #[.slice a n c, .slice a2 n2 c2]) (by simp [results, Tryz.results64, go_sem, d0, d1]) rfl ?_
  obtain ⟨h1, h2, h3⟩ := HS4.out
  have hk := Keeps.two' w4 w.heap.size (.slice a n c) (.slice a2 n2 c2)
  refine ⟨a, n, c, a2, n2, c2, rfl, ((HB4.out.setCell (p := ⟨w.heap.size, 0, none⟩) (Nat.le_refl _) _).setCell (p := ⟨w.heap.size, 1, none⟩) (Nat.le_refl _) _ : Below _ _ _), (h1.keeps hk (fun j e e' => ?_)).weak (by omega), (h2.keeps hk (fun j e e' => ?_)).weak (by omega), h3⟩
  · have := (h1.lt j e).1; omega
  · have := (h2.lt j e).1; omega
end Go.Proofs.YtddgoncbdlhhhaaGreat
/- Same of two rows of ranges; sameBus. Own work. -/
namespace Go.Proofs.YtddgoncbdlhhhaaGreat
open Go.RowKit Go.Maps Go.Proofs.YtddgoncbdlhhhaaGreat.Sp
theorem neq_range (w : World) (a b : Int) : (binOp .neq 55 (.agg #[.int .u64 a, .int .u64 b]) (.agg #[.int .u64 a, .int .u64 b])).run Tryz.prog w = .ok (.bool false) w := by
  have u := Tryz.underlying26
  have a2 := Tryz.isAgg26
  have z := Tryz.sizeOf26
  have hS : Tryz.prog.underlying 55 = some (.struct (Tryz.prog.fieldsOf 55)) := by kernel_rfl
  have hp : Tryz.prog.stoodInHeld 55 = false := by kernel_rfl
  rw [run_neq_struct, show (10000 : Nat) = 9999 + 1 from rfl, run_equalIn_agg w 9999 55 _ _ hS hp]
  simp only [Program.fieldsOf, Tryz.underlying55]
  go_simp
theorem guard_range : Tryz.prog.eqGuardType Tryz.prog.depth 55 = false := by kernel_rfl
theorem guard_ranges (w : World) (x y : Operand) (a b c d : Value) : (eqGuard .neq 55 x y (.agg #[a, b]) (.agg #[c, d])).run Tryz.prog w = .ok () w := run_eqGuard_agg w _ _ _ _ _ _ guard_range
set_option maxRecDepth 100000 in
set_option maxHeartbeats 4000000 in
theorem rsame_yes {w : World} {u v : Value} {xs : List Sp} (hu : U64.SV w u xs) (hv : U64.SV w v xs) :
    Calls Tryz.prog 43 #[u, v] w fun e w' => e = .returned (.bool true) ∧ Below w.heap.size w w' := by
  have HU : Hid (∀ W, Below w.heap.size w W → U64.SV W u xs) := fun W hW => hu.below hW (Nat.le_refl _)
  have HV : Hid (∀ W, Below w.heap.size w W → U64.SV W v xs) := fun W hW => hv.below hW (Nat.le_refl _)
  obtain ⟨ao, cap, rfl, h1, h2, _, _, _⟩ := hu
  obtain ⟨bo, cap2, rfl, h3, h4, _, _, _⟩ := hv
  have hbig : xs.length ≤ 9223372036854775807 := by unfold maxLen at h2; omega
  have hne := neq_range
  have hgd := guard_ranges
  clear h2 h4
  obtain ⟨N, hN⟩ : ∃ N, N = xs.length := ⟨_, rfl⟩
  rw [← hN] at h1 h3 hbig ⊢
  have HN : Hid (N = xs.length) := hN
  clear hN
  go_enter Tryz.func43, Tryz.ntmps43
  go_wp2_with fail
  go_loopw [5] (fun x wr => ∃ (i : Nat), i ≤ N ∧ x = .int .i64 (i : Int) ∧ Hid (Below w.heap.size w wr)) (fun x _ => match x with | .int _ z => N - z.toNat | _ => 0)
  case atStart => exact ⟨0, by omega, rfl, Below.refl _ _⟩
  case round =>
    obtain ⟨i, hi, rfl, HK⟩ := hrel
    by_cases hlt : i < N
    · have hx : i < xs.length := by have := HN.out; omega
      obtain ⟨ao', cap', e, _, _, _, _, k5⟩ := HU.out wr HK.out
      cases e
      obtain ⟨g, off, rfl, c0, c1⟩ := k5 i hx
      obtain ⟨bo', cap2', e, _, _, _, _, l5⟩ := HV.out wr HK.out
      cases e
      obtain ⟨g2, off2, rfl, d0, d1⟩ := l5 i hx
      generalize xs[i].1 = p at *
      generalize xs[i].2 = q at *
      clear k5 l5
      go_wp2_with fail
      go_region_held3 (fun w' => w'.cell? ⟨g, off + i * 2, none⟩ = some (.int .u64 p) ∧ w'.cell? ⟨g, off + i * 2 + 1, none⟩ = some (.int .u64 q) ∧ w'.cell? ⟨g2, off2 + i * 2, none⟩ = some (.int .u64 p) ∧ w'.cell? ⟨g2, off2 + i * 2 + 1, none⟩ = some (.int .u64 q)) (go_keep) (fail)
      go_wp2_with fail
      go_roundw
      case rel => exact ⟨i + 1, by omega, by go_num, HK.out.drew⟩
      case measure => simp; omega
    · obtain rfl : i = N := by omega
      go_wp2_with fail
      go_ret
      exact ⟨rfl, HK.out⟩
set_option maxRecDepth 100000 in
set_option maxHeartbeats 4000000 in
theorem sameBus_yes {w : World} {u1 u2 v1 v2 : Value} {rs ds : List Sp} (h1 : U64.SV w u1 rs) (h2 : U64.SV w u2 ds) (h3 : U64.SV w v1 rs) (h4 : U64.SV w v2 ds) :
    Calls Tryz.prog 65 #[.agg #[u1, u2], .agg #[v1, v2]] w fun e w' => e = .returned (.bool true) ∧ Below w.heap.size w w' := by
  have HA : Hid (∀ W, Below w.heap.size w W → Calls Tryz.prog 43 #[u1, v1] W fun e w' => e = .returned (.bool true) ∧ Below W.heap.size W w') := fun W hW => rsame_yes (h1.below hW (Nat.le_refl _)) (h3.below hW (Nat.le_refl _))
  have HB : Hid (∀ W, Below w.heap.size w W → Calls Tryz.prog 43 #[u2, v2] W fun e w' => e = .returned (.bool true) ∧ Below W.heap.size W w') := fun W hW => rsame_yes (h2.below hW (Nat.le_refl _)) (h4.below hW (Nat.le_refl _))
  clear h1 h2 h3 h4
  go_enter Tryz.func65, Tryz.ntmps65
  go_wp2_with fail
  have hb0 : Below w.heap.size w ((w.alloc (Obj.cells #[u1, u2] 24)).alloc (Obj.cells #[v1, v2] 24)) := ((Below.refl _ _).alloc (Nat.le_refl _) _).alloc (by simp) _
  refine (HA.out _ hb0).mono ?_
  rintro e w1 ⟨rfl, hb1⟩
  have hx : BoxB ((w.alloc (Obj.cells #[u1, u2] 24)).alloc (Obj.cells #[v1, v2] 24)) w.heap.size u1 u2 := (show BoxB (w.alloc (Obj.cells #[u1, u2] 24)) w.heap.size u1 u2 from heap_alloc_new w _).below ((Below.refl _ _).alloc (Nat.le_refl _) _)
  have hy : BoxB ((w.alloc (Obj.cells #[u1, u2] 24)).alloc (Obj.cells #[v1, v2] 24)) (w.heap.size + 1) v1 v2 := heap_alloc_newN (by simp) _
  obtain ⟨_, x1, _⟩ := (hx.below hb1).cells
  obtain ⟨_, y1, _⟩ := (hy.below hb1).cells
  have HB1 : Hid (Below w.heap.size w w1) := hb0.trans (hb1.mono hb0.size)
  clear hb0 hb1 hx hy HA
  go_wp2_with fail
  refine (HB.out _ HB1.out).mono ?_
  rintro e w2 ⟨rfl, hb2⟩
  have HB2 : Hid (Below w.heap.size w w2) := HB1.out.trans (hb2.mono HB1.out.size)
  clear hb2
  go_wp2_with fail
  go_ret
  exact ⟨rfl, HB2.out⟩
end Go.Proofs.YtddgoncbdlhhhaaGreat
