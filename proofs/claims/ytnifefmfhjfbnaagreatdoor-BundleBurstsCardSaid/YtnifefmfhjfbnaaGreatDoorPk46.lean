import Derived.Test.YtnifefmfhjfbnaaGreatDoorPk45
import Derived.Test.YtnifefmfhjfbnaaGreatDoorPk10
/- Bundle: a section of no bytes. Plain. Own work. -/
namespace Go.Proofs.YtnifefmfhjfbnaaGreatDoor
open Bn Dc
set_option linter.unusedVariables false
set_option linter.unusedSimpArgs false
namespace Dc
theorem many_pos (n : Nat) (l : List Nat) : (manyB n ++ l).length ≠ 0 := by
 unfold manyB
 rw [List.length_append, List.length_append, b2_len]
 omega
theorem two_pos (n : Int) (l : List Nat) : (b2 n ++ l).length ≠ 0 := by
 rw [List.length_append, b2_len]
 omega
theorem len_zero {I : Im} {k : Nat} (h1 : 1 ≤ k) (h8 : k ≤ 8) (h : lenN I k = 0) : k = 8 ∧ I.tabs = [] := by
 have e := (st_sec I (k := k) (by omega)).2.2
 rw [h] at e
 have c : k = 1 ∨ k = 2 ∨ k = 3 ∨ k = 4 ∨ k = 5 ∨ k = 6 ∨ k = 7 ∨ k = 8 := by omega
 rcases c with rfl | rfl | rfl | rfl | rfl | rfl | rfl | rfl
 ·exact absurd e.symm (two_pos _ _)
 ·exact absurd e.symm (many_pos _ _)
 ·exact absurd e.symm (many_pos _ _)
 ·exact absurd e.symm (many_pos _ _)
 ·exact absurd e.symm (many_pos _ _)
 ·exact absurd e.symm (many_pos _ _)
 ·exact absurd e.symm (two_pos _ _)
 ·refine ⟨rfl, ?_⟩
  cases ht : I.tabs with
  | nil => rfl
  | cons f fs =>
   exfalso
   have e2 : secB I 8 = layL (fun _ => tabB) 0 I.tabs := rfl
   rw [e2, ht, layL, List.length_append] at e
   have : (tabB f).length = (tb f 511).length + 8 := by
    unfold tabB
    rw [show (512 : Nat) = 511 + 1 from rfl, tb, List.length_append, Pl.le_length]
   omega
/-- where a section's bytes stand -/
theorem sec_parts {I : Im} (hw : (sizeF I).2 = 0) {k : Nat} (h1 : 1 ≤ k) (h8 : k ≤ 8) : ∃ pre mid post, encF I = pre ++ (mid ++ post) ∧ pre.length = fstN I k ∧ mid.length = lenN I k := by
 obtain ⟨p0, hlen, _⟩ := enc_parts hw
 have ha := fst_len I k (by omega)
 refine ⟨(encF I).take (fstN I k), ((encF I).drop (fstN I k)).take (lenN I k), ((encF I).drop (fstN I k)).drop (lenN I k), ?_, ?_, ?_⟩
 ·rw [List.take_append_drop, List.take_append_drop]
 ·rw [List.length_take]
  omega
 ·rw [List.length_take, List.length_drop]
  omega
/-- where a burst may fall -/
def Fall (I : Im) (s F E : Nat) : Prop := ∃ pre mid post, encF I = pre ++ (mid ++ post) ∧ pre.length = F ∧ F + mid.length = E ∧ (mid.length = 0 → s = 8 ∧ I.tabs = []) ∧ ∀ m b X, m.length = mid.length → (∀ z ∈ m, z < 256) → 0 < X → X < 4294967296 → Pl.num mid.length m = Pl.num mid.length mid ^^^ 2 ^ b * X → (decA (pre ++ (m ++ post))).why ≠ 0
theorem fall_head {I : Im} (hw : (sizeF I).2 = 0) : Fall I 0 0 156 := by
 obtain ⟨p0, hlen, h4, hc, h160, _⟩ := enc_parts hw
 refine ⟨[], (encF I).take 156, (encF I).drop 156, ?_, rfl, ?_, fun h => ?_, fun m b X hm hs h0 hX hn => ?_⟩
 ·rw [List.nil_append, List.take_append_drop]
 ·rw [List.length_take]
  omega
 ·rw [List.length_take] at h
  omega
 ·have hl : ((encF I).take 156).length = 156 := by rw [List.length_take]; omega
  obtain ⟨mid, hmid⟩ : ∃ l, (encF I).take 156 = l := ⟨_, rfl⟩
  obtain ⟨post, hpost⟩ : ∃ l, (encF I).drop 156 = l := ⟨_, rfl⟩
  have hx : encF I = mid ++ post := by rw [← hmid, ← hpost, List.take_append_drop]
  rw [hmid] at hl hm hn
  rw [hpost, List.nil_append]
  exact hurt_head (I := I) hx hl hm hs h0 hX hn
theorem fall_sec {I : Im} (hI : ImK I) (hw : (sizeF I).2 = 0) {k : Nat} (h1 : 1 ≤ k) (h8 : k ≤ 8) : Fall I k (fstN I k) (fstN I k + lenN I k) := by
 obtain ⟨pre, mid, post, hx, hp, hl⟩ := sec_parts hw h1 h8
 exact ⟨pre, mid, post, hx, hp, by omega, fun h => len_zero h1 h8 (by omega), fun m b X hm hs h0 hX hn => hurt_sec hI hw h1 h8 hx hp hl hm hs h0 hX hn⟩
end Dc
end Go.Proofs.YtnifefmfhjfbnaaGreatDoor
/- Within from 0 on; burst. -/
namespace Go.Proofs.YtnifefmfhjfbnaaGreatDoor
open Go.RowKit
set_option maxHeartbeats 1000000 in
theorem within_any (n hi : Int) (w : World) (h0 : 0 ≤ hi) (h1 : hi ≤ 1152921504606846976) :
  Calls Tryz.prog 23 #[.int .i64 n, .int .i64 0, .int .i64 hi] w fun e w' => ∃ r : Nat, e = .returned (.int .i64 (r : Int)) ∧ (r : Int) ≤ hi ∧ w' = w := by
 by_cases hn : 0 ≤ n
 ·have b1 : 0 ≤ n % (hi + 1) := Int.emod_nonneg n (by omega)
  have b2 : n % (hi + 1) < hi + 1 := Int.emod_lt_of_pos n (by omega)
  go_enter Tryz.func23, Tryz.ntmps23
  go_wp2
  go_ret
  exact ⟨(n % (hi + 1)).toNat, congrArg (fun z => Ending.returned (.int .i64 z)) (by simp; omega), by omega, rfl⟩
 ·have b1 : -(hi + 1) < n.tmod (hi + 1) := Int.lt_tmod_of_pos n (by omega)
  have b2 : n.tmod (hi + 1) < hi + 1 := Int.tmod_lt_of_pos n (by omega)
  generalize hm : n.tmod (hi + 1) = m at *
  by_cases hm0 : m < 0
  ·go_enter Tryz.func23, Tryz.ntmps23
   go_wp2
   go_ret
   exact ⟨(m + hi + 1).toNat, congrArg (fun z => Ending.returned (.int .i64 z)) (by simp; omega), by omega, rfl⟩
  ·go_enter Tryz.func23, Tryz.ntmps23
   go_wp2
   go_ret
   exact ⟨m.toNat, congrArg (fun z => Ending.returned (.int .i64 z)) (by simp; omega), by omega, rfl⟩
end Go.Proofs.YtnifefmfhjfbnaaGreatDoor
