/- zeros, within; one page's bytes laid down. Own work. -/
import Derived.Test.YtmaahompmgmkfaaBOps
import Derived.Deep.RegionHeld3
import Derived.Deep.MidRow
namespace Go.Proofs.Ytmaahompmgmkfaa
open Go.RowKit Go.Maps
def allZ (zs : List Nat) : Bool := zs.all fun z => z == 0
set_option maxHeartbeats 1000000 in
theorem within_any {a n : Nat} (ha : a ≤ 18446744073709551615) (w : World) : Calls Try.prog 49 #[.int .u64 (a : Int), .int .i64 (n : Int)] w fun e w' => e = .returned (.int .i64 ((min n (4096 - a % 4096) : Nat) : Int)) ∧ w' = w := by
  go_enter Try.func49, Try.ntmps49
  have h1 : (((4096 - a % 4096 : Nat)) : Int) = 4096 - (a : Int) % 4096 := by omega
  have H1 : Hid ((((4096 - a % 4096 : Nat)) : Int) = 4096 - (a : Int) % 4096) := h1
  clear h1
  go_wp2
  · go_ret
    exact ⟨congrArg (fun z => Ending.returned (.int .i64 z)) (by have := H1.out; omega), rfl⟩
  · go_ret
    exact ⟨congrArg (fun z => Ending.returned (.int .i64 z)) (by have := H1.out; omega), rfl⟩
theorem allZ_take (zs : List Nat) (k : Nat) (h : k < zs.length) : allZ (zs.take (k + 1)) = (allZ (zs.take k) && (zs.getD k 0 == 0)) := by
  rw [List.take_succ_eq_append_getElem h, List.getD_eq_getElem?_getD, List.getElem?_eq_getElem h]
  unfold allZ
  rw [List.all_append]
  simp
theorem allZ_not (zs : List Nat) (k : Nat) (h : k < zs.length) (hz : zs.getD k 0 ≠ 0) : allZ zs = false := by
  cases e : allZ zs with
  | false => rfl
  | true =>
    have := List.all_eq_true.1 e _ (List.getElem_mem h)
    rw [List.getD_eq_getElem?_getD, List.getElem?_eq_getElem h] at hz
    exact absurd (by simpa using this) hz
end Go.Proofs.Ytmaahompmgmkfaa
