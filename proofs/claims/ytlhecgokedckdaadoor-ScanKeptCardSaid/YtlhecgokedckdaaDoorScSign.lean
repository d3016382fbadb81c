/- Scan: sign. -/
import Derived.Test.YtlhecgokedckdaaDoorScSkip
import Derived.Deep.DeepCutAuto
import Derived.Deep.CutBlock
namespace Go.Proofs.YtlhecgokedckdaaDoor
open Go.RowKit
def signV : Sc.Res Nat → Value
  | .ok k _ => .tuple #[.int .i64 (k : Int), .bool true]
  | .bad _ => .tuple #[.int .i64 0, .bool false]
theorem Sc.signs_small : ∀ r ∈ Sc.signs, (∀ z ∈ r, z < 256) ∧ 0 < r.length ∧ r.length ≤ 2 := by decide
theorem Sc.signs_at (k : Nat) (hk : k < 26) : (∀ z ∈ Sc.signs.getD k [], z < 256) ∧ 0 < (Sc.signs.getD k []).length ∧ (Sc.signs.getD k []).length ≤ 2 := by
  rw [List.getD_eq_getElem?_getD, List.getElem?_eq_getElem (show k < Sc.signs.length from hk)]
  exact Sc.signs_small _ (List.getElem_mem _)
theorem Sc.signFrom_step (l : List Nat) (k : Nat) (hk : k < 26) (r : Nat × Nat) : Sc.signFrom l (Sc.signs.drop k) k r = Sc.signFrom l (Sc.signs.drop (k + 1)) (k + 1) (if r.2 < (Sc.signs.getD k []).length ∧ l.take (Sc.signs.getD k []).length = Sc.signs.getD k [] then (4 + k, (Sc.signs.getD k []).length) else r) := by
  rw [List.drop_eq_getElem_cons (show k < Sc.signs.length from hk), List.getD_eq_getElem?_getD, List.getElem?_eq_getElem (show k < Sc.signs.length from hk)]
  rfl
/-- how far the signs have been gone through -/
def SignAt (l : List Nat) (k r0 rs : Nat) : Prop := Sc.signFrom l (Sc.signs.drop k) k (r0, rs) = Sc.signFrom l Sc.signs 0 (0, 0)
/-- a sign as a string -/
def SignIs (k : Nat) (m : ByteArray) : Prop := m = mkS (Sc.signs.getD k [])
theorem SignIs.sb {k : Nat} {m : ByteArray} (hk : k < 26) (h : SignIs k m) : sb m = Sc.signs.getD k [] := by
  rw [show m = _ from h, sb_mkS (Sc.signs_at k hk).1]
theorem SignIs.size {k : Nat} {m : ByteArray} (hk : k < 26) (h : SignIs k m) : m.size = (Sc.signs.getD k []).length := by
  rw [← sb_length, h.sb hk]
theorem SignAt.hit {l : List Nat} {k r0 rs : Nat} {m : ByteArray} (h : SignAt l k r0 rs) (hk : k < 26) (hm : SignIs k m) (h1 : rs < m.size) (h2 : l.take m.size = sb m) : SignAt l (k + 1) (4 + k) m.size := by
  have := Sc.signFrom_step l k hk (r0, rs)
  rw [show Sc.signFrom l _ _ _ = _ from h, ← hm.sb hk, sb_length, if_pos ⟨h1, h2⟩] at this
  exact this.symm
theorem SignAt.miss {l : List Nat} {k r0 rs : Nat} {m : ByteArray} (h : SignAt l k r0 rs) (hk : k < 26) (hm : SignIs k m) (h1 : ¬ (rs < m.size ∧ l.take m.size = sb m)) : SignAt l (k + 1) r0 rs := by
  have := Sc.signFrom_step l k hk (r0, rs)
  rw [show Sc.signFrom l _ _ _ = _ from h, ← hm.sb hk, sb_length, if_neg h1] at this
  exact this.symm
theorem SignAt.done {l : List Nat} {r0 rs : Nat} (h : SignAt l 26 r0 rs) : Sc.signF l = if rs = 0 then .bad 1 else .ok r0 rs := by
  have h' : (r0, rs) = Sc.signFrom l Sc.signs 0 (0, 0) := h
  unfold Sc.signF
  rw [← h']
set_option maxRecDepth 100000 in
set_option maxHeartbeats 400000 in
theorem sign_any {w : World} {p : Nat} {v : Value} {a : Nat} {lv : Value} {zs : List Nat} (ht : Tabs w) (h : CutB w p v a lv) (hs : Sl w v zs) (ha : a < zs.length) :
    Calls Tryd.prog 35 #[.pointer (some ⟨p, 0, none⟩)] w fun e w' => e = .returned (signV (Sc.signF (zs.drop a))) ∧ CutB w' p v (a + (Sc.signF (zs.drop a)).len) lv ∧ Keeps (fun k => k = p) w w' := by
  have hlen := hs.len
  unfold maxLen at hlen
  have HT : Hid (Tabs w) := ht
  have HC : Hid (CutB w p v a lv) := h
  have HS : Hid (Sl w v zs) := hs
  clear ht h hs
  have HSt : Hid (∀ W, Below w.heap.size w W → ∀ s : ByteArray, s.size ≤ 1000 → Calls Tryd.prog 47 #[.pointer (some ⟨p, 0, none⟩), .string s] W fun e w' => e = .returned (.bool (decide ((zs.drop a).take (sb s).length = sb s))) ∧ Below W.heap.size W w') := fun W hW s hsz => stands_any (HC.out.below hW) (HS.out.below hW) (by omega) s hsz
  go_enter Tryd.func35, Tryd.ntmps35
  go_wp2
  go_loopw [4, 5, 6, 7, 8] (fun kind size _ _ i wr => ∃ k r0 rs : Nat, k ≤ 26 ∧ i = .int .i64 k ∧ kind = .int .i64 (r0 : Int) ∧ size = .int .i64 (rs : Int) ∧ rs ≤ 2 ∧ r0 ≤ 29 ∧ a + rs ≤ zs.length ∧ SignAt (zs.drop a) k r0 rs ∧ Hid (Below w.heap.size w wr)) (fun _ _ _ _ i _ => 26 - (intOf i).toNat)
  case atStart => exact ⟨0, 0, 0, by omega, rfl, rfl, rfl, by omega, by omega, by omega, rfl, Below.refl _ _⟩
  case round =>
    obtain ⟨k, r0, rs, hk, rfl, rfl, rfl, r1, r2, r3, HF, HB⟩ := hrel
    by_cases hlt : k < 26
    · have hc := (HB.out.cell (p := ⟨2, k, none⟩) (World.block_lt_of_cell? w _ (HT.out.sig k hlt))).trans (HT.out.sig k hlt)
      obtain ⟨s1, s2, s3⟩ := Sc.signs_at k hlt
      obtain ⟨m, hm⟩ : ∃ m, SignIs k m := ⟨_, rfl⟩
      rw [← show m = _ from hm] at hc
      have hsz := hm.size hlt
      have m1 : m.size ≤ 2 := by omega
      have m2 : 0 < m.size := by omega
      clear s1 s2 s3 hsz
      by_cases hn : rs < m.size
      · have q : decide ((rs : Int) < (m.size : Int)) = true := decide_eq_true (by omega)
        have HCk : Hid (∀ W, Below wr.heap.size wr W → Calls Tryd.prog 47 #[.pointer (some ⟨p, 0, none⟩), .string m] W fun e w' => e = .returned (.bool (decide ((zs.drop a).take (sb m).length = sb m))) ∧ Below W.heap.size W w') := fun W hW => HSt.out W (HB.out.trans (hW.mono HB.out.size)) m (by omega)
        go_wp2_with fail
        refine (HCk.out _ (Below.refl _ _)).mono ?_
        rintro e w1 ⟨rfl, hb1⟩
        rw [sb_length]
        have HB1 : Hid (Below w.heap.size w w1) := HB.out.trans (hb1.mono HB.out.size)
        clear hb1 HCk
        by_cases hs : (zs.drop a).take m.size = sb m
        · rw [decide_eq_true hs]
          have hfit : a + m.size ≤ zs.length := by
            have := congrArg List.length hs
            rw [sb_length] at this
            simp at this
            omega
          have hnx := HF.hit hlt hm hn hs
          clear hs
          go_wp2_with fail
          refine ⟨⟨k + 1, 4 + k, m.size, by omega, by go_num, by go_num, rfl, by omega, by omega, hfit, hnx, HB1⟩, by simp [intOf]; omega⟩
        · rw [decide_eq_false hs]
          have hnx := HF.miss hlt hm (fun e => hs e.2)
          clear hs
          go_wp2_with fail
          refine ⟨⟨k + 1, r0, rs, by omega, by go_num, rfl, rfl, by omega, by omega, r3, hnx, HB1⟩, by simp [intOf]; omega⟩
      · have q : decide ((rs : Int) < (m.size : Int)) = false := decide_eq_false (by omega)
        have hnx := HF.miss hlt hm (fun e => hn e.1)
        go_wp2_with fail
        refine ⟨⟨k + 1, r0, rs, by omega, by go_num, rfl, rfl, by omega, by omega, r3, hnx, HB⟩, by simp [intOf]; omega⟩
    · obtain rfl : k = 26 := by omega
      have c1 := (HC.out.below HB.out).cell1
      have t1 := (HC.out.below HB.out).thawed 1
      have hE := HF.done
      have HCr : Hid (CutB wr p v a lv) := HC.out.below HB.out
      have HKr : Hid (Keeps (fun k => k = p) w wr) := Keeps.of_below HB.out
      by_cases h0 : rs = 0
      · rw [if_pos h0] at hE
        have HE : Hid (Sc.signF (zs.drop a) = .bad 1) := hE
        clear hE HF
        subst h0
        go_wp2
        go_ret2
        rw [HE.out]
        exact ⟨rfl, HCr.out.move (a + 1), HKr.out.trans (Keeps.setCell wr p 1 _) (fun _ _ e => e)⟩
      · have q0 : ((rs : Int) == 0) = false := beq_eq_false_iff_ne.2 (by omega)
        rw [if_neg h0] at hE
        have HE : Hid (Sc.signF (zs.drop a) = .ok r0 rs) := hE
        clear hE HF
        go_wp2
        go_ret2
        rw [HE.out]
        exact ⟨rfl, HCr.out.move (a + rs), HKr.out.trans (Keeps.setCell wr p 1 _) (fun _ _ e => e)⟩
end Go.Proofs.YtlhecgokedckdaaDoor
