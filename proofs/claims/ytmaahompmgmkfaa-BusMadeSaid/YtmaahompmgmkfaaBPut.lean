/- Put of no bytes and a number of 64 bits; Sub. Own work. -/
import Derived.Test.YtmaahompmgmkfaaBRead
import Derived.Test.YtmaahompmgmkfaaSpNumU64
namespace Go.Proofs.Ytmaahompmgmkfaa
open Go.RowKit Go.Maps
def subB (a b : Int) : Int × Bool := if a < b then (0, false) else (a - b, true)
set_option maxHeartbeats 1000000 in
theorem sub_any {a b : Int} (ha : 0 ≤ a ∧ a ≤ 18446744073709551615) (hb : 0 ≤ b ∧ b ≤ 18446744073709551615) (w : World) : Calls Try.prog 31 #[.int .u64 a, .int .u64 b] w fun e w' => e = .returned (.tuple #[.int .u64 (subB a b).1, .bool (subB a b).2]) ∧ w' = w := by
  obtain ⟨a0, a1⟩ := ha
  obtain ⟨b0, b1⟩ := hb
  by_cases h : a < b
  · have HE : Hid (subB a b = (0, false)) := if_pos h
    go_enter Try.func31, Try.ntmps31
    go_wp2
    go_ret2
    exact ⟨by rw [HE.out]; rfl, rfl⟩
  · have HE : Hid (subB a b = (a - b, true)) := if_neg h
    go_enter Try.func31, Try.ntmps31
    go_wp2
    go_ret2
    exact ⟨by rw [HE.out]; rfl, rfl⟩
end Go.Proofs.Ytmaahompmgmkfaa
