/- beyond, Size, Largest. Own work. -/
import Derived.Test.YtehedllcdpjebaaSpWithU64
import Derived.Test.YtehedllcdpjebaaSpNumU64
import Derived.Test.YtehedllcdpjebaaSpMath2
namespace Go.Proofs.Ytehedllcdpjebaa.U64
open Go.RowKit Go.Shelf Go.Proofs.Ytehedllcdpjebaa.Sp

theorem beyond_any {x : Sp} (h : 0 ≤ x.1 ∧ x.1 ≤ x.2 ∧ x.2 ≤ 18446744073709551615) (w : World) : Calls Try.prog 46 #[.agg #[.int .u64 x.1, .int .u64 x.2]] w fun e w' => e = .returned (.int .u64 (x.2 - x.1)) ∧ ∃ X, w' = w.alloc X := by
  go_enter Try.func46, Try.ntmps46
  go_wp2
  go_ret
  exact ⟨rfl, _, rfl⟩
set_option maxHeartbeats 2000000 in
theorem size_any {w : World} {v : Value} {xs : List Sp} (hv : SV w v xs) (hc : Canon 18446744073709551615 xs) :
    Calls Try.prog 26 #[.agg #[v]] w fun e w' => e = .returned (.tuple #[.int .u64 (sizeB xs).1, .bool (sizeB xs).2]) ∧ Below w.heap.size w w' := by
  have HV : Hid (∀ X, SV (w.alloc X) v xs) := fun X => hv.alloc X
  have HC : Hid (Canon 18446744073709551615 xs) := hc
  obtain ⟨ao, cap, rfl, h1, h2, h3, h4, h5⟩ := hv
  unfold maxLen at h2
  clear h3 h4 h5 hc
  go_enter Try.func26, Try.ntmps26
  go_wp2_with fail
  obtain ⟨W0, hW0⟩ : ∃ W0, w.alloc (Obj.cells #[.slice ao xs.length cap] 77) = W0 := ⟨_, rfl⟩
  have HV0 : Hid (SV W0 (.slice ao xs.length cap) xs) := hW0 ▸ HV.out _
  have HB0 : Hid (Below w.heap.size w W0) := hW0 ▸ (Below.refl _ _).alloc (Nat.le_refl _) _
  rw [hW0]
  clear hW0 HV
  go_loopw [4, 5, 11] (fun n b i wr => ∃ k : Nat, k ≤ xs.length ∧ i = .int .i64 (k : Int) ∧ n = .int .u64 (sizeB (xs.take k)).1 ∧ b = .bool (sizeB (xs.take k)).2 ∧ Hid (Below W0.heap.size W0 wr)) (fun _ _ i _ => xs.length - (intOf i).toNat)
  case atStart => exact ⟨0, Nat.zero_le _, rfl, rfl, rfl, Below.refl _ _⟩
  case round =>
    obtain ⟨k, hk, rfl, rfl, rfl, HB⟩ := hrel
    by_cases hlt : k < xs.length
    · obtain ⟨ao', cap', e, _, _, _, _, h5⟩ := HV0.out.below HB.out (Nat.le_refl _)
      cases e
      obtain ⟨g, off, rfl, d0, d1⟩ := h5 k hlt
      clear h5
      have hb := HC.out.1 xs[k] (List.getElem_mem _)
      have ha := tot_ahead HC.out hlt
      have hn := tot_nonneg (canon_take HC.out k)
      have ht := tot_take hlt
      obtain ⟨x, hx⟩ : ∃ x, x = xs[k] := ⟨_, rfl⟩
      rw [← hx] at d0 d1 hb ha ht
      obtain ⟨T, hT⟩ : ∃ T, T = tot (xs.take k) := ⟨_, rfl⟩
      have hs : sizeB (xs.take k) = (T, true) := by simp only [sizeB]; rw [if_pos (by omega), hT]
      have hs2 : sizeB (xs.take (k + 1)) = U64.addB (T + (x.2 - x.1)) 1 := by
        simp only [sizeB, U64.addB, ht, ← hT]
        rw [show T + (x.2 - x.1 + 1) = T + (x.2 - x.1) + 1 by omega]
      rw [← hT] at ha hn
      rw [hs]
      have HS2 : Hid (sizeB (xs.take (k + 1)) = U64.addB (T + (x.2 - x.1)) 1) := hs2
      have HB3 : Hid (∀ X Y, Below W0.heap.size W0 ((wr.alloc X).alloc Y)) := fun X Y => (HB.out.alloc HB.out.size X).alloc (by have := HB.out.size; simp; omega) Y
      have HA : Hid (∀ W, Calls Try.prog 45 #[.int .u64 (T + (x.2 - x.1)), .int .u64 1] W fun e w' => e = .returned (.tuple #[.int .u64 (U64.addB (T + (x.2 - x.1)) 1).1, .bool (U64.addB (T + (x.2 - x.1)) 1).2]) ∧ w' = W) := fun W => U64.add_any (by omega) (by omega) W
      clear hx hT hs hs2 ht
      go_wp2_with fail
      refine (beyond_any hb _).mono ?_
      rintro e w' ⟨rfl, X, rfl⟩
      go_wp2_with fail
      refine (HA.out _).mono ?_
      rintro e w' ⟨rfl, rfl⟩
      clear HA
      go_wp2_with fail
      go_roundw
      case rel => exact ⟨k + 1, by omega, by go_num, by rw [HS2.out], by rw [HS2.out], HB3.out _ _⟩
      case measure => simp [intOf]; omega
    · obtain rfl : k = xs.length := by omega
      rw [List.take_length]
      go_wp2_with fail
      go_ret2
      exact ⟨rfl, HB0.out.trans (HB.out.mono HB0.out.size)⟩

end Go.Proofs.Ytehedllcdpjebaa.U64
