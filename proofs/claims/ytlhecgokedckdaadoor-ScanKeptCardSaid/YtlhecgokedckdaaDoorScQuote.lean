/- Scan: spell, Quote. -/
import Derived.Test.YtlhecgokedckdaaDoorScToks
namespace Go.Proofs.YtlhecgokedckdaaDoor
open Go.RowKit
namespace Sc
def hexd (i : Nat) : Nat := if i < 10 then 48 + i else 87 + i
def spellF (b : Nat) : List Nat := if b = 10 then [92, 110] else if b = 9 then [92, 116] else if b = 92 ∨ b = 34 then [92, b] else if b < 32 ∨ 126 < b then [92, 120, hexd (b / 16), hexd (b % 16)] else [b]
def quoteF (s : List Nat) : List Nat := [34] ++ s.flatMap spellF ++ [34]
end Sc
theorem sl_bytes (w : World) (L : List Nat) (hL : ∀ z ∈ L, z < 256) (hl : L.length ≤ 1000) : Sl (w.alloc (.cells (bvs L).toArray 5)) (.slice (some ⟨w.heap.size, 0, none⟩) L.length L.length) L := by
  have hr : Row (w.alloc (.cells (bvs L).toArray 5)) w.heap.size L := heap_alloc_new w _
  have := hr.sl hL 0 L.length L.length (by simp) (Nat.le_refl _) (by unfold maxLen; omega)
  rwa [List.drop_zero, List.take_length] at this
theorem step_append_sl {w : World} {ops : Array Oper} {o : Oper} {a : Act} {K : Act → World → Prop} {Q : Exit → Act → World → Prop} {E : Prop} (hw : Region.wanted o (yielded ops a.tmps) = true) (s x : Operand)
    (ho : o.op = .call { callee := .builtin .append, args := #[s, x], argTypes := #[28, 28] })
    {base : Nat} {v u : Value} {xs ys : List Nat} (hs : a.eval s = v) (hown : Own w base v xs) (hx : a.eval x = u) (hsl : Sl w u ys) (hb : xs.length + ys.length ≤ 1099511627776) (hbase : base ≤ w.heap.size)
    (h : ∀ v' w', Own w' base v' (xs ++ ys) → w.grownBy w' v.ownBlock → (v'.ownBlock = v.ownBlock ∨ v'.ownBlock = some w.heap.size) → K (a.put o.dst v') w') : if Region.wanted o (yielded ops a.tmps) = true then Oper.wp Tryd.prog o a w K Q else E := by
  rw [if_pos hw]
  obtain ⟨v', w', hr, h2, h3, h4⟩ := run_append_sl o.type hown hsl hb hbase
  unfold Oper.wp execOp
  simp only [ho, resolve, invoke, builtin, Sem.run_bind, Sem.run_pure, Result.andThen_ok, List.map_toArray, List.map_cons, List.map_nil, hs, hx, hr]
  exact h v' w' h2 h3 h4
/-- what a call that appends leaves -/
def SpPost (w : World) (base : Nat) (v : Value) (xs ys : List Nat) (v' : Value) (w' : World) : Prop := Own w' base v' (xs ++ ys) ∧ Keeps (fun k => v.ownBlock = some k) w w' ∧ At w v v'
theorem SpPost.mk {w : World} {base : Nat} {v : Value} {xs ys : List Nat} {v' : Value} {w' : World} {X : Obj} (h : Own w' base v' (xs ++ ys)) (g : (w.alloc X).grownBy w' v.ownBlock) (l : v'.ownBlock = v.ownBlock ∨ v'.ownBlock = some (w.alloc X).heap.size) : SpPost w base v xs ys v' w' := by
  refine ⟨h, (Keeps.alloc (S := fun k => v.ownBlock = some k) w X).trans (Keeps.of_grown g) (fun _ _ e => e), ?_⟩
  rcases l with l | l
  · exact .inl l
  · exact .inr ⟨_, l, by simp⟩
theorem SpPost.mkd {w : World} {base : Nat} {v : Value} {xs ys : List Nat} {v' : Value} {w' : World} {X : Obj} (h : Own w' base v' (xs ++ ys)) (g : (w.alloc X).drew.grownBy w' v.ownBlock) (l : v'.ownBlock = v.ownBlock ∨ v'.ownBlock = some (w.alloc X).drew.heap.size) : SpPost w base v xs ys v' w' := by
  refine ⟨h, (Keeps.alloc (S := fun k => v.ownBlock = some k) w X).drew.trans (Keeps.of_grown g) (fun _ _ e => e), ?_⟩
  rcases l with l | l
  · exact .inl l
  · exact .inr ⟨_, l, by simp⟩
theorem and15_u8 (b : Nat) (hb : b < 256) : bits .and .u8 (b : Int) 15 = ((b % 16 : Nat) : Int) := by
  have : ∀ b : Fin 256, bits .and .u8 (b.val : Int) 15 = ((b.val % 16 : Nat) : Int) := by decide +kernel
  exact this ⟨b, hb⟩
theorem Sc.hexd_lt (i : Nat) (h : i < 16) : Sc.hexd i < 256 := by unfold Sc.hexd; split <;> omega
theorem hex_index (h : Nat) (hh : h < 16) (w : World) : (Instr.index 9 (.string ⟨#[48, 49, 50, 51, 52, 53, 54, 55, 56, 57, 97, 98, 99, 100, 101, 102]⟩) (.int .u8 (h : Int))).run Tryd.prog w = .ok (.int .u8 (Sc.hexd h : Nat)) w := by
  rw [run_index_string (P := Tryd.prog) w 9 _ .u8 (h : Int) Tryd.underlying9]
  match h, hh with
  | 0, _ => rfl
  | 1, _ => rfl
  | 2, _ => rfl
  | 3, _ => rfl
  | 4, _ => rfl
  | 5, _ => rfl
  | 6, _ => rfl
  | 7, _ => rfl
  | 8, _ => rfl
  | 9, _ => rfl
  | 10, _ => rfl
  | 11, _ => rfl
  | 12, _ => rfl
  | 13, _ => rfl
  | 14, _ => rfl
  | 15, _ => rfl
  | n + 16, h => exact absurd h (by omega)
set_option maxRecDepth 100000 in
set_option maxHeartbeats 1000000 in
theorem spell_any {w : World} {base : Nat} {v : Value} {xs : List Nat} {b : Nat} (ho : Own w base v xs) (hb : b < 256) (hl : xs.length ≤ 549755813888) (hbase : base ≤ w.heap.size) :
    Calls Tryd.prog 23 #[v, .int .u8 (b : Int)] w fun e w' => ∃ v', e = .returned v' ∧ SpPost w base v xs (Sc.spellF b) v' w' := by
  have HO : Hid (∀ X, Own (w.alloc X) base v xs) := fun X => ho.below ((Below.refl _ _).alloc (Nat.le_refl _) _)
  have HOd : Hid (∀ X, Own (w.alloc X).drew base v xs) := fun X => ho.below ((Below.refl _ _).alloc (Nat.le_refl _) _).drew
  clear ho
  by_cases e1 : b = 10
  · subst e1
    have HE : Hid (Sc.spellF 10 = [92, 110]) := (rfl : _ = _)
    have HSl : Hid (Sl (w.alloc (.cells #[.int .u8 92, .int .u8 110] 5)) (.slice (some ⟨w.heap.size, 0, none⟩) 2 2) [92, 110]) := sl_bytes w [92, 110] (by intro z hz; simp at hz; omega) (by simp)
    go_enter Tryd.func23, Tryd.ntmps23
    go_wp2_with (at_builtin; refine wpList_append_sl (v := v) (.tmp 8) (.tmp 9) (by rfl) rfl rfl (HO.out _) rfl HSl.out (by simp only [List.length_cons, List.length_nil]; omega) (by simp; omega) ?_; intro v2 w2 h2 g2 l2; have HP : Hid (SpPost w base v xs [92, 110] v2 w2) := SpPost.mk h2 g2 l2; clear h2 g2 l2)
    go_ret
    rw [HE.out]
    exact ⟨_, rfl, HP.out⟩
  · have q1 : ((b : Int) == 10) = false := beq_eq_false_iff_ne.2 (by omega)
    by_cases e2 : b = 9
    · subst e2
      have HE : Hid (Sc.spellF 9 = [92, 116]) := (rfl : _ = _)
      have HSl : Hid (Sl (w.alloc (.cells #[.int .u8 92, .int .u8 116] 5)) (.slice (some ⟨w.heap.size, 0, none⟩) 2 2) [92, 116]) := sl_bytes w [92, 116] (by intro z hz; simp at hz; omega) (by simp)
      go_enter Tryd.func23, Tryd.ntmps23
      go_wp2_with (at_builtin; refine wpList_append_sl (v := v) (.tmp 14) (.tmp 15) (by rfl) rfl rfl (HO.out _) rfl HSl.out (by simp only [List.length_cons, List.length_nil]; omega) (by simp; omega) ?_; intro v2 w2 h2 g2 l2; have HP : Hid (SpPost w base v xs [92, 116] v2 w2) := SpPost.mk h2 g2 l2; clear h2 g2 l2)
      go_ret
      rw [HE.out]
      exact ⟨_, rfl, HP.out⟩
    · have q2 : ((b : Int) == 9) = false := beq_eq_false_iff_ne.2 (by omega)
      by_cases e3 : b = 92 ∨ b = 34
      · have HE : Hid (Sc.spellF b = [92, b]) := by show _ = _; unfold Sc.spellF; rw [if_neg e1, if_neg e2, if_pos e3]
        have HSl : Hid (Sl (w.alloc (.cells #[.int .u8 92, .int .u8 (b : Int)] 5)) (.slice (some ⟨w.heap.size, 0, none⟩) 2 2) [92, b]) := sl_bytes w [92, b] (by intro z hz; simp at hz; omega) (by simp)
        rcases e3 with e3 | e3
        · have q3 : ((b : Int) == 92) = true := beq_iff_eq.2 (by omega)
          clear e3
          go_enter Tryd.func23, Tryd.ntmps23
          go_wp2_with (at_builtin; refine wpList_append_sl (v := v) (.tmp 24) (.tmp 26) (by rfl) rfl rfl (HO.out _) rfl HSl.out (by simp only [List.length_cons, List.length_nil]; omega) (by simp; omega) ?_; intro v2 w2 h2 g2 l2; have HP : Hid (SpPost w base v xs [92, b] v2 w2) := SpPost.mk h2 g2 l2; clear h2 g2 l2)
          go_ret
          rw [HE.out]
          exact ⟨_, rfl, HP.out⟩
        · have q3 : ((b : Int) == 92) = false := beq_eq_false_iff_ne.2 (by omega)
          have q4 : ((b : Int) == 34) = true := beq_iff_eq.2 (by omega)
          clear e3
          go_enter Tryd.func23, Tryd.ntmps23
          go_wp2_with (at_builtin; refine wpList_append_sl (v := v) (.tmp 24) (.tmp 26) (by rfl) rfl rfl (HO.out _) rfl HSl.out (by simp only [List.length_cons, List.length_nil]; omega) (by simp; omega) ?_; intro v2 w2 h2 g2 l2; have HP : Hid (SpPost w base v xs [92, b] v2 w2) := SpPost.mk h2 g2 l2; clear h2 g2 l2)
          go_ret
          rw [HE.out]
          exact ⟨_, rfl, HP.out⟩
      · have q3 : ((b : Int) == 92) = false := beq_eq_false_iff_ne.2 (by omega)
        have q4 : ((b : Int) == 34) = false := beq_eq_false_iff_ne.2 (by omega)
        by_cases e4 : b < 32 ∨ 126 < b
        · have HE : Hid (Sc.spellF b = [92, 120, Sc.hexd (b / 16), Sc.hexd (b % 16)]) := by show _ = _; unfold Sc.spellF; rw [if_neg e1, if_neg e2, if_neg e3, if_pos e4]
          have hd1 : ((b : Nat) : Int) / 16 = ((b / 16 : Nat) : Int) := by omega
          have hd2 := and15_u8 b hb
          have x1 := hex_index (b / 16) (by omega)
          have x2 := hex_index (b % 16) (by omega)
          have h1 := Sc.hexd_lt (b / 16) (by omega)
          have h2 := Sc.hexd_lt (b % 16) (by omega)
          have l1 : b / 16 < 16 := by omega
          have l2 : b % 16 < 16 := by omega
          generalize Sc.hexd (b / 16) = y1 at *
          generalize Sc.hexd (b % 16) = y2 at *
          generalize b / 16 = d1 at *
          generalize b % 16 = d2 at *
          have HSl : Hid (∀ X, Sl (w.alloc (.cells #[.int .u8 92, .int .u8 120, .int .u8 (y1 : Int), .int .u8 (y2 : Int)] 5)).drew (.slice (some ⟨w.heap.size, 0, none⟩) 4 4) [92, 120, y1, y2] ∧ X = X) := fun (X : Nat) => ⟨(sl_bytes w [92, 120, y1, y2] (by intro z hz; simp at hz; omega) (by simp)).below (Below.refl _ _).drew, rfl⟩
          rcases e4 with e4 | e4
          · go_enter Tryd.func23, Tryd.ntmps23
            go_wp2_with fail
            go_region_law (refine step_append_sl (v := v) (by kernel_rfl) (.tmp 35) (.tmp 42) (by rfl) (by rfl) (by exact HOd.out _) (by rfl) (by exact (HSl.out 0).1) (by simp only [List.length_cons, List.length_nil]; omega) (by simp; omega) ?_; intro v2 w2 h2 g2 l2; have HP : Hid (SpPost w base v xs [92, 120, y1, y2] v2 w2) := SpPost.mkd h2 g2 l2; clear h2 g2 l2)
            all_goals
              go_wp2_with fail
              go_ret
              rw [HE.out]
              exact ⟨_, rfl, HP.out⟩
          · have q5 : ¬ (b : Int) < 32 := by omega
            go_enter Tryd.func23, Tryd.ntmps23
            go_wp2_with fail
            go_region_law (refine step_append_sl (v := v) (by kernel_rfl) (.tmp 35) (.tmp 42) (by rfl) (by rfl) (by exact HOd.out _) (by rfl) (by exact (HSl.out 0).1) (by simp only [List.length_cons, List.length_nil]; omega) (by simp; omega) ?_; intro v2 w2 h2 g2 l2; have HP : Hid (SpPost w base v xs [92, 120, y1, y2] v2 w2) := SpPost.mkd h2 g2 l2; clear h2 g2 l2)
            all_goals
              go_wp2_with fail
              go_ret
              rw [HE.out]
              exact ⟨_, rfl, HP.out⟩
        · have HE : Hid (Sc.spellF b = [b]) := by show _ = _; unfold Sc.spellF; rw [if_neg e1, if_neg e2, if_neg e3, if_neg e4]
          have q5 : ¬ (b : Int) < 32 := by omega
          have q6 : ¬ (126 : Int) < (b : Int) := by omega
          have HSl : Hid (Sl (w.alloc (.cells #[.int .u8 (b : Int)] 5)) (.slice (some ⟨w.heap.size, 0, none⟩) 1 1) [b]) := sl_bytes w [b] (by intro z hz; simp at hz; omega) (by simp)
          go_enter Tryd.func23, Tryd.ntmps23
          go_wp2_with (at_builtin; refine wpList_append_sl (v := v) (.tmp 44) (.tmp 46) (by rfl) rfl rfl (HO.out _) rfl HSl.out (by simp only [List.length_cons, List.length_nil]; omega) (by simp; omega) ?_; intro v2 w2 h2 g2 l2; have HP : Hid (SpPost w base v xs [b] v2 w2) := SpPost.mk h2 g2 l2; clear h2 g2 l2)
          go_ret
          rw [HE.out]
          exact ⟨_, rfl, HP.out⟩
theorem own_one (w : World) {z : Nat} : Own (w.alloc (.cells #[.int .u8 (z : Int)] 5)) w.heap.size (.slice (some ⟨w.heap.size, 0, none⟩) 1 1) [z] :=
  ⟨rfl, .inr ⟨w.heap.size, 1, #[.int .u8 (z : Int)], rfl, Nat.le_refl _, heap_alloc_new w _, Nat.le_refl _, by unfold maxLen; omega, rfl, rfl⟩⟩
theorem Sc.spellF_len (b : Nat) : (Sc.spellF b).length ≤ 4 := by
  unfold Sc.spellF
  repeat' split
  all_goals simp
theorem Sc.spells_len (L : List Nat) : (L.flatMap Sc.spellF).length ≤ 4 * L.length := by
  induction L with
  | nil => simp
  | cons b L ih => have := Sc.spellF_len b; simp only [List.flatMap_cons, List.length_append, List.length_cons]; omega
theorem Sc.spells_snoc (L : List Nat) (k : Nat) (h : k < L.length) : (L.take (k + 1)).flatMap Sc.spellF = (L.take k).flatMap Sc.spellF ++ Sc.spellF (L.getD k 0) := by
  rw [List.take_succ_eq_append_getElem h, List.flatMap_append, List.getD_eq_getElem?_getD, List.getElem?_eq_getElem h]
  simp
theorem Sc.spellF_small {b : Nat} (hb : b < 256) : ∀ z ∈ Sc.spellF b, z < 256 := by
  have h1 := Sc.hexd_lt (b / 16) (by omega)
  have h2 := Sc.hexd_lt (b % 16) (by omega)
  unfold Sc.spellF
  repeat' split
  all_goals
    intro z hz
    simp at hz
    omega
theorem Sc.quoteF_small {s : List Nat} (hs : ∀ z ∈ s, z < 256) : ∀ z ∈ Sc.quoteF s, z < 256 := by
  intro z hz
  unfold Sc.quoteF at hz
  rcases List.mem_append.1 hz with h | h
  · rcases List.mem_append.1 h with h | h
    · rw [List.mem_singleton.1 h]; decide
    · obtain ⟨b, hb, h⟩ := List.mem_flatMap.1 h
      exact Sc.spellF_small (hs b hb) z h
  · rw [List.mem_singleton.1 h]; decide
set_option maxRecDepth 100000 in
set_option maxHeartbeats 1000000 in
theorem quote_any (s : ByteArray) (hs : s.size ≤ 16777216) (w : World) :
    Calls Tryd.prog 8 #[.string s] w fun e w' => ∃ v, e = .returned v ∧ Own w' w.heap.size v (Sc.quoteF (sb s)) ∧ Below w.heap.size w w' := by
  have HL : Hid ((sb s).length = s.size) := sb_length s
  have HO0 : Hid (Own (w.alloc (.cells #[.int .u8 34] 5)) w.heap.size (.slice (some ⟨w.heap.size, 0, none⟩) 1 1) ([34] ++ ((sb s).take 0).flatMap Sc.spellF)) := own_one (z := 34) w
  go_enter Tryd.func8, Tryd.ntmps8
  go_wp2_with fail
  go_loopw [3, 4] (fun o i wr => ∃ k : Nat, k ≤ s.size ∧ i = .int .i64 (k : Int) ∧ Hid (Own wr w.heap.size o ([34] ++ ((sb s).take k).flatMap Sc.spellF)) ∧ Hid (Below w.heap.size w wr)) (fun _ i _ => s.size - (intOf i).toNat)
  case atStart => exact ⟨0, by omega, rfl, HO0, (Below.refl _ _).alloc (Nat.le_refl _) _⟩
  case round =>
    obtain ⟨k, hk, rfl, HO, HB⟩ := hrel
    clear HO0
    have hll := Sc.spells_len ((sb s).take k)
    have hl1 : ([34] ++ ((sb s).take k).flatMap Sc.spellF).length ≤ 67108865 := by
      rw [List.length_append]
      simp only [List.length_cons, List.length_nil]
      rw [List.length_take] at hll
      omega
    by_cases hlt : k < s.size
    · have hzb : s[k].toNat < 256 := s[k].toNat_lt
      have hsn := Sc.spells_snoc (sb s) k (by rw [HL.out]; exact hlt)
      rw [sb_get s k hlt] at hsn
      have HSn : Hid (((sb s).take (k + 1)).flatMap Sc.spellF = ((sb s).take k).flatMap Sc.spellF ++ Sc.spellF s[k].toNat) := hsn
      have HSp : Hid (Calls Tryd.prog 23 #[u3, .int .u8 (s[k].toNat : Int)] wr fun e w' => ∃ v', e = .returned v' ∧ SpPost wr w.heap.size u3 ([34] ++ ((sb s).take k).flatMap Sc.spellF) (Sc.spellF s[k].toNat) v' w') := spell_any HO.out hzb (by omega) HB.out.size
      have i2 : (k : Int) < (s.size : Int) := by omega
      clear hsn
      go_wp2_with fail
      refine HSp.out.mono ?_
      rintro e w2 ⟨v2, rfl, hp⟩
      have HP : Hid (SpPost wr w.heap.size u3 ([34] ++ ((sb s).take k).flatMap Sc.spellF) (Sc.spellF s[k].toNat) v2 w2) := hp
      clear hp HSp
      go_wp2_with fail
      refine ⟨⟨k + 1, by omega, by go_num, ?_, HB.out.trans (HP.out.2.1.below HB.out.size (fun j _ e => (HO.out.lt j e).1))⟩, by simp [intOf]; omega⟩
      have := HP.out.1
      rw [List.append_assoc, ← HSn.out] at this
      exact this
    · obtain rfl : k = s.size := by omega
      have hfull : (sb s).take s.size = sb s := by rw [← HL.out, List.take_length]
      have HO1 : Hid (Own wr w.heap.size u3 ([34] ++ (sb s).flatMap Sc.spellF)) := by rw [← hfull]; exact HO.out
      have HSl : Hid (Sl (wr.alloc (.cells #[.int .u8 34] 5)) (.slice (some ⟨wr.heap.size, 0, none⟩) 1 1) [34]) := sl_bytes wr [34] (by intro z hz; simp at hz; omega) (by simp)
      have HOA : Hid (∀ X, Own (wr.alloc X) w.heap.size u3 ([34] ++ (sb s).flatMap Sc.spellF)) := fun X => HO1.out.below ((Below.refl _ _).alloc (Nat.le_refl _) _)
      rw [hfull] at hl1
      have hsz := HB.out.size
      clear hfull hll
      go_wp2_with (at_builtin; refine wpList_append_sl (v := u3) (.tmp 17) (.tmp 18) (by rfl) rfl rfl (HOA.out _) rfl HSl.out (by simp only [List.length_cons, List.length_nil]; omega) (by simp; omega) ?_; intro v2 w2 h2 g2 l2; have HP : Hid (SpPost wr w.heap.size u3 ([34] ++ (sb s).flatMap Sc.spellF) [34] v2 w2) := SpPost.mk h2 g2 l2; clear h2 g2 l2)
      go_ret
      exact ⟨_, rfl, HP.out.1, HB.out.trans (HP.out.2.1.below HB.out.size (fun j _ e => (HO.out.lt j e).1))⟩
end Go.Proofs.YtlhecgokedckdaaDoor
