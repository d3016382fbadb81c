/- Ranges that are laid behind one another: append of ranges; bulkheadref3.All. Own work. -/
import Derived.Test.YtmaahompmgmkfaaGreatRgRow
import Derived.Deep.AppendSrc
namespace Go.Proofs.YtmaahompmgmkfaaGreat
open Go.RowKit Go.Maps Go.Proofs.YtmaahompmgmkfaaGreat.Sp
/-- a row of ranges that is owned from base on -/
def OwnRg (w : World) (base : Nat) (v : Value) (xs : List Sp) : Prop := w.ownsRow base 47 2 v xs.length (U64.encs xs)
theorem OwnRg.sv {w : World} {base : Nat} {v : Value} {xs : List Sp} (h : OwnRg w base v xs) : U64.SV w v xs := by
  rcases h.2 with ⟨rfl, h0⟩ | ⟨g, cap, cur, rfl, hb, hg, hnc, hcm, hcs, ht⟩
  · obtain rfl := List.eq_nil_of_length_eq_zero h0
    exact U64.SV.nil w
  · refine ⟨_, cap, rfl, hnc, hcm, fun e => (by cases e), fun a e => (by cases e; exact ⟨g, 0, rfl, (Array.getElem?_eq_some_iff.1 hg).1⟩), fun j hj => ⟨g, 0, rfl, ?_, ?_⟩⟩
    · rw [Nat.zero_add, cell_of_row w g (j * 2) _ _ _ hg, ← Array.getElem?_toList, ← U64.encs_get0 xs j hj, ← ht, List.getElem?_take_of_lt (by omega)]
    · rw [Nat.zero_add, cell_of_row w g (j * 2 + 1) _ _ _ hg, ← Array.getElem?_toList, ← U64.encs_get1 xs j hj, ← ht, List.getElem?_take_of_lt (by omega)]
theorem OwnRg.nil (w : World) (base : Nat) : OwnRg w base (.slice none 0 0) [] := ⟨rfl, .inl ⟨rfl, rfl⟩⟩
theorem OwnRg.form {w : World} {base : Nat} {v : Value} {xs : List Sp} (h : OwnRg w base v xs) : ∃ a c, v = .slice a xs.length c ∧ ∀ j, v.ownBlock = some j → base ≤ j := by
  rcases h.2 with ⟨rfl, h0⟩ | ⟨g, cap, cur, rfl, hb, _⟩
  · exact ⟨none, 0, by rw [h0], fun j e => by cases e⟩
  · exact ⟨_, cap, rfl, fun j e => by cases e; exact hb⟩
theorem sv_cells {w : World} {b o : Nat} {n c : Nat} {xs : List Sp} (h : U64.SV w (.slice (some ⟨b, o, none⟩) n c) xs) (j : Nat) (u : Value) (hj : (U64.encs xs)[j]? = some u) : w.cell? (Addr.add ⟨b, o, none⟩ j) = some u := by
  obtain ⟨ao, cap, e, h1, h2, h3, h9, h4⟩ := h
  have hjl : j < xs.length * 2 := by have := (List.getElem?_eq_some_iff.1 hj).1; rw [U64.encs_length] at this; exact this
  obtain ⟨b', o', e', c0, c1⟩ := h4 (j / 2) (by omega)
  rw [e'] at e
  cases e
  rw [Addr.add_lit]
  rcases (by omega : j % 2 = 0 ∨ j % 2 = 1) with e | e
  · rw [show j = j / 2 * 2 by omega, U64.encs_get0 xs (j / 2) (by omega)] at hj
    rw [show j = j / 2 * 2 by omega, c0]
    exact hj
  · rw [show j = j / 2 * 2 + 1 by omega, U64.encs_get1 xs (j / 2) (by omega)] at hj
    rw [show j = j / 2 * 2 + 1 by omega, ← Nat.add_assoc, c1]
    exact hj
/-- ranges are laid behind a row that is owned -/
theorem run_appR {w : World} {base : Nat} {v l : Value} {xs ys : List Sp} (ty : TypeId) (hv : OwnRg w base v xs) (hl : U64.SV w l ys) (hlen : xs.length + ys.length ≤ 8796093022208) (hbase : base ≤ w.heap.size) :
    ∃ v' w', (Builtin.append_ #[22, 22] ty #[v, l]).run Tryz.prog w = .ok v' w' ∧ OwnRg w' base v' (xs ++ ys) ∧ w.grownBy w' v.ownBlock := by
  obtain ⟨i, hi, hz0, hz1, hz2⟩ := info_parts info_rg
  have hl' := hl
  obtain ⟨ao, cap, rfl, h1, h2, h3, h9, h4⟩ := hl'
  cases ao with
  | none =>
    obtain ⟨rfl, rfl⟩ := h3 rfl
    rw [List.append_nil]
    rcases id hv.2 with ⟨rfl, h0⟩ | ⟨g, cap, cur, rfl, hb, hg, hnc, hcm, hcs, ht⟩
    · refine ⟨.slice none 0 0, w, ?_, hv, ⟨rfl, rfl, rfl, Nat.le_refl _, fun _ _ _ => rfl⟩⟩
      simp [Builtin.append_, run_underlying Tryz.underlying22, sizeOf, typeInfo, hi, Builtin.lenOf, Builtin.firstCells]
    · refine ⟨_, w, ?_, hv, ⟨rfl, rfl, rfl, Nat.le_refl _, fun _ _ _ => rfl⟩⟩
      have := run_append_room_src (P := Tryz.prog) w 22 22 ty 47 i Tryz.underlying22 hi g 0 xs.length cap (.slice none 0 0) 0 [] (Src.ofNil w Tryz.underlying22 0) (by omega) (fun j hj => absurd hj (by simp)) (fun j hj => absurd hj (by simp))
      exact this
  | some a =>
    obtain ⟨b, o, rfl, hlt⟩ := h9 a rfl
    obtain ⟨v', w', r1, r2, r3, _⟩ := run_append_own_at (P := Tryz.prog) w base 22 ty 47 i _ 2 _ Tryz.underlying22 hi hz0 hz1 hz2 rfl (by omega) v xs.length (U64.encs xs) hv ⟨b, o, none⟩ ys.length cap (U64.encs ys) (by rw [U64.encs_length]) (fun j u hj => sv_cells hl j u hj) (U64.encs_one ys) (by unfold maxLen; omega) (by omega) hbase
    refine ⟨v', w', r1, ?_, r3⟩
    unfold OwnRg
    rw [List.length_append, U64.encs_append]
    exact r2
theorem wpList_appR {w : World} {base : Nat} {ops : Array Oper} {rest : List Oper} {o : Oper} {a : Act} {Q : Exit → Act → World → Prop} (hgd : o.guard = none) (s x : Operand)
    (ho : o.op = .call { callee := .builtin .append, args := #[s, x], argTypes := #[22, 22] }) {v l : Value} {xs ys : List Sp} (hs : a.eval s = v) (hx : a.eval x = l) (hv : OwnRg w base v xs) (hl : U64.SV w l ys) (hlen : xs.length + ys.length ≤ 8796093022208) (hbase : base ≤ w.heap.size)
    (h : ∀ va vn vc w', Hid (OwnRg w' base (.slice va vn vc) (xs ++ ys)) → Hid (w.grownBy w' v.ownBlock) → wpList Tryz.prog ops Q rest (a.put o.dst (.slice va vn vc)) w') : wpList Tryz.prog ops Q (o :: rest) a w := by
  refine wpList_plain hgd fun K hK => ?_
  obtain ⟨v', w', hr, h2, h3⟩ := run_appR o.type hv hl hlen hbase
  obtain ⟨va, vc, rfl, _⟩ := h2.form
  unfold Oper.wp
  simp only [execOp, ho, resolve, invoke, builtin, Sem.run_bind, Sem.run_pure, List.map_toArray, List.map_cons, List.map_nil, hs, hx, hr, Result.andThen_ok]
  exact hK _ _ (h va _ vc w' h2 h3)
set_option maxRecDepth 100000 in
set_option maxHeartbeats 2000000 in
theorem all_any {w : World} {vr vd : Value} {rs ds : List Sp} (hr : U64.SV w vr rs) (hd : U64.SV w vd ds) (hl : rs.length + ds.length ≤ 8796093022208) :
    Calls Tryz.prog 14 #[.agg #[vr, vd]] w fun e w' => ∃ a n c, e = .returned (.slice a n c) ∧ Hid (Below w.heap.size w w') ∧ Hid (U64.SV w' (.slice a n c) (rs ++ ds)) ∧ Hid (∀ j, (Value.slice a n c).ownBlock = some j → w.heap.size ≤ j) := by
  have HB0 : Hid (Below w.heap.size w (w.alloc (Obj.cells #[vr, vd] 24))) := (Below.refl _ _).alloc (Nat.le_refl _) _
  have HR1 : Hid (U64.SV (w.alloc (Obj.cells #[vr, vd] 24)) vr rs) := hr.below HB0.out (Nat.le_refl _)
  have HD1 : Hid (U64.SV (w.alloc (Obj.cells #[vr, vd] 24)) vd ds) := hd.below HB0.out (Nat.le_refl _)
  have HX : Hid ((w.alloc (Obj.cells #[vr, vd] 24)).cell? ⟨w.heap.size, 1, none⟩ = some vd) := (U64.new2 rfl vr vd _).2
  clear hr hd
  go_enter Tryz.func14, Tryz.ntmps14
  go_wp2_with (refine wpList_appR rfl (.const (.slice none 0 0)) (.tmp 5) rfl (base := w.heap.size) rfl rfl (OwnRg.nil _ _) HR1.out (by simp; omega) (by simp) ?_)
  intro a1 n1 c1 w1 HO1 HG1
  have HB1 : Hid (Below (w.heap.size + 1) (w.alloc (Obj.cells #[vr, vd] 24)) w1) := below_grown HG1.out (by simp) (fun k e => by cases e)
  have x1 : w1.cell? ⟨w.heap.size, 1, none⟩ = some vd := (HB1.out.cell (p := ⟨w.heap.size, 1, none⟩) (Nat.lt_succ_self _)).trans HX.out
  have HD2 : Hid (U64.SV w1 vd ds) := HD1.out.below HB1.out (by simp)
  have HO2 : Hid (OwnRg w1 w.heap.size (.slice a1 n1 c1) rs) := HO1.out
  have HZ1 : Hid (w.heap.size ≤ w1.heap.size) := Nat.le_trans (by simp) HG1.out.size
  have HBw : Hid (Below w.heap.size w w1) := HB0.out.trans (HB1.out.mono (Nat.le_succ _))
  clear HO1 HG1 HR1 HD1 HX HB0 HB1
  go_wp2_with (refine wpList_appR rfl (.tmp 7) (.tmp 9) rfl (base := w.heap.size) rfl rfl HO2.out HD2.out (by omega) HZ1.out ?_)
  intro a2 n2 c2 w2 HO3 HG2
  have HB2 : Hid (Below w.heap.size w w2) := HBw.out.grown HG2.out HZ1.out (fun k e => by obtain ⟨_, _, _, h⟩ := HO2.out.form; exact h k e)
  clear HG2
  go_wp2_with fail
  go_ret
  exact ⟨a2, n2, c2, rfl, HB2, HO3.out.sv, fun j e => by obtain ⟨_, _, _, h⟩ := HO3.out.form; exact h j e⟩
/-- have two ranges no byte in common? -/
def apartB (a s b t : Int) : Bool := decide (a + s ≤ b ∨ b + t ≤ a)
set_option maxHeartbeats 1000000 in
theorem apart_any {a s b t : Int} (w : World) (ha : 0 ≤ a ∧ 0 ≤ s ∧ a + s ≤ 4294967296) (hb : 0 ≤ b ∧ 0 ≤ t ∧ b + t ≤ 4294967296) :
    Calls Tryz.prog 29 #[.agg #[.int .u64 a, .int .u64 s], .agg #[.int .u64 b, .int .u64 t]] w fun e w' => e = .returned (.bool (apartB a s b t)) ∧ Hid (Below w.heap.size w w') := by
  obtain ⟨a0, a1, a2⟩ := ha
  obtain ⟨b0, b1, b2⟩ := hb
  have HB : Hid (∀ X Y, Below w.heap.size w ((w.alloc X).alloc Y)) := fun X Y => ((Below.refl _ _).alloc (Nat.le_refl _) _).alloc (by simp) _
  by_cases h1 : a + s ≤ b
  · have HE : Hid (apartB a s b t = true) := decide_eq_true (.inl h1)
    go_enter Tryz.func29, Tryz.ntmps29
    go_wp2
    go_ret
    exact ⟨by rw [HE.out]; rfl, HB.out _ _⟩
  · by_cases h2 : b + t ≤ a
    · have HE : Hid (apartB a s b t = true) := decide_eq_true (.inr h2)
      go_enter Tryz.func29, Tryz.ntmps29
      go_wp2
      go_ret
      exact ⟨by rw [HE.out]; rfl, HB.out _ _⟩
    · have HE : Hid (apartB a s b t = false) := decide_eq_false (by omega)
      go_enter Tryz.func29, Tryz.ntmps29
      go_wp2
      go_ret
      exact ⟨by rw [HE.out]; rfl, HB.out _ _⟩
end Go.Proofs.YtmaahompmgmkfaaGreat
