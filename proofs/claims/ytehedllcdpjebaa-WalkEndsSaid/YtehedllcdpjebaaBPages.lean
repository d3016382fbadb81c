/- zeros, within; one page's bytes laid down. Own work. -/
import Derived.Test.YtehedllcdpjebaaBOps
import Derived.Deep.RegionHeld3
import Derived.Deep.MidRow
namespace Go.Proofs.Ytehedllcdpjebaa
open Go.RowKit Go.Maps
def allZ (zs : List Nat) : Bool := zs.all fun z => z == 0
set_option maxHeartbeats 1000000 in
theorem within_any {a n : Nat} (ha : a ≤ 18446744073709551615) (w : World) : Calls Try.prog 49 #[.int .u64 (a : Int), .int .i64 (n : Int)] w fun e w' => e = .returned (.int .i64 ((min n (4096 - a % 4096) : Nat) : Int)) ∧ w' = w := by
  go_enter Try.func49, Try.ntmps49
  have h1 : (((4096 - a % 4096 : Nat)) : Int) = 4096 - (a : Int) % 4096 := by omega
  have H1 : Hid ((((4096 - a % 4096 : Nat)) : Int) = 4096 - (a : Int) % 4096) := h1
  clear h1
  go_wp2
  · go_ret
    exact ⟨congrArg (fun z => Ending.returned (.int .i64 z)) (by have := H1.out; omega), rfl⟩
  · go_ret
    exact ⟨congrArg (fun z => Ending.returned (.int .i64 z)) (by have := H1.out; omega), rfl⟩
theorem allZ_take (zs : List Nat) (k : Nat) (h : k < zs.length) : allZ (zs.take (k + 1)) = (allZ (zs.take k) && (zs.getD k 0 == 0)) := by
  rw [List.take_succ_eq_append_getElem h, List.getD_eq_getElem?_getD, List.getElem?_eq_getElem h]
  unfold allZ
  rw [List.all_append]
  simp
theorem allZ_not (zs : List Nat) (k : Nat) (h : k < zs.length) (hz : zs.getD k 0 ≠ 0) : allZ zs = false := by
  cases e : allZ zs with
  | false => rfl
  | true =>
    have := List.all_eq_true.1 e _ (List.getElem_mem h)
    rw [List.getD_eq_getElem?_getD, List.getElem?_eq_getElem h] at hz
    exact absurd (by simpa using this) hz
set_option maxHeartbeats 1000000 in
theorem zeros_some (b o cap : Nat) (zs : List Nat) (w : World) (hc : zs.length ≤ cap) (hm : cap ≤ maxLen)
    (hcell : ∀ i, i < zs.length → w.cell? ⟨b, o + i, none⟩ = some (.int .u8 (zs.getD i 0 : Nat))) :
    Calls Try.prog 59 #[.slice (some ⟨b, o, none⟩) zs.length cap] w fun e w' => e = .returned (.bool (allZ zs)) ∧ w' = w := by
  unfold maxLen at hm
  have HC : Hid (∀ i, i < zs.length → w.cell? ⟨b, o + i, none⟩ = some (.int .u8 (zs.getD i 0 : Nat))) := hcell
  clear hcell
  go_enter Try.func59, Try.ntmps59
  go_wp2
  go_loop [7] (fun i => ∃ k : Nat, k ≤ zs.length ∧ i = .int .i64 (k : Int) ∧ Hid (allZ (zs.take k) = true)) (fun i => zs.length - (intOf i).toNat)
  case atStart => exact ⟨0, Nat.zero_le _, rfl, rfl⟩
  case round =>
    obtain ⟨k, hk, rfl, HZ⟩ := hrel
    by_cases hlt : k < zs.length
    · have hck := HC.out k hlt
      have HT : Hid (allZ (zs.take (k + 1)) = (allZ (zs.take k) && (zs.getD k 0 == 0))) := allZ_take zs k hlt
      have HN : Hid (zs.getD k 0 ≠ 0 → allZ zs = false) := allZ_not zs k hlt
      generalize zs.getD k 0 = z at *
      by_cases hz : z = 0
      · subst hz
        go_wp2
        go_round
        case rel => exact ⟨k + 1, by omega, by go_num, by show _ = _; rw [HT.out, HZ.out]; rfl⟩
        case measure => simp [intOf]; omega
      · have hz2 : ¬ (z : Int) = 0 := by omega
        go_wp2
        go_ret
        exact ⟨by rw [HN.out hz]; rfl, rfl⟩
    · have HE : Hid (allZ zs = true) := by have := HZ.out; rwa [List.take_of_length_le (by omega)] at this
      go_wp2
      go_ret
      exact ⟨by rw [HE.out]; rfl, rfl⟩
set_option maxHeartbeats 1000000 in
theorem zeros_none (ao : Option Addr) (cap : Nat) (w : World) : Calls Try.prog 59 #[.slice ao 0 cap] w fun e w' => e = .returned (.bool (allZ [])) ∧ w' = w := by
  have HE : Hid (allZ [] = true) := (rfl : _ = _)
  go_enter Try.func59, Try.ntmps59
  go_wp2
  go_loop [7] (fun i => i = .int .i64 0) (fun _ => 0)
  case atStart => rfl
  case round =>
    subst hrel
    go_wp2
    go_ret
    exact ⟨by rw [HE.out]; rfl, rfl⟩
theorem zeros_any {v : Value} {zs : List Nat} {w : World} (hv : Sl w v zs) : Calls Try.prog 59 #[v] w fun e w' => e = .returned (.bool (allZ zs)) ∧ w' = w := by
  by_cases hp : 0 < zs.length
  · obtain ⟨b, o, cap, rfl, h1, h2, h3, h4⟩ := hv.pos hp
    exact zeros_some b o cap zs w h1 h2 h4
  · obtain rfl : zs = [] := List.eq_nil_of_length_eq_zero (by omega)
    obtain ⟨ao, cap, rfl, h1, h2, h3, h4, h5⟩ := hv
    exact zeros_none ao cap w
end Go.Proofs.Ytehedllcdpjebaa
