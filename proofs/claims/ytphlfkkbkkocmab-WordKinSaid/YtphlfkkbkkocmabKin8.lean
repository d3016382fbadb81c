import Derived.Test.YtphlfkkbkkocmabSums
import Derived.Test.YtphlfkkbkkocmabKinAid
namespace Go.Proofs.Ytphlfkkbkkocmab
open Go.RowKit

set_option maxHeartbeats 2000000 in
theorem kin8_is (a b m : Int) (w : World) (ha : 0 ≤ a) (ha' : a ≤ 255) (hb : 0 < b) (hb' : b ≤ 255) (hm : Hid (a * b = m)) (hm0 : 0 ≤ m) (hq : m / b = a) (hz : m % b = 0) (hr : a % b = 0) :
    Calls Try.prog 5 #[.int .u8 a, .int .u8 b] w fun e w' => e = .returned (.bool true) ∧ w' = w := by
  have := hm0; have := hq; have := hz
  go_enter Try.func5, Try.ntmps5
  go_wp2_with fail
  by_cases hs : a + b ≤ 255
  all_goals
    first
    | (refine (add8_yes a b _ ha ha' (by omega) hb' hs).mono ?_; rintro e w' ⟨rfl, rfl⟩; go_wp2_with fail; refine (sub8_yes (a + b) b _ (by omega) hs (by omega) hb' (by omega)).mono ?_; rintro e w' ⟨rfl, rfl⟩; go_wp2_with fail)
    | (refine (add8_no a b _ ha ha' (by omega) hb' (Int.not_le.1 hs)).mono ?_; rintro e w' ⟨rfl, rfl⟩; go_wp2_with fail)
  all_goals
    by_cases hl : b ≤ a
  all_goals
    first
    | (refine (sub8_yes a b _ (by omega) (by omega) (by omega) hb' hl).mono ?_; rintro e w' ⟨rfl, rfl⟩; go_wp2_with fail; refine (add8_yes (a - b) b _ (by omega) (by omega) (by omega) hb' (by omega)).mono ?_; rintro e w' ⟨rfl, rfl⟩; go_wp2_with fail)
    | (refine (sub8_no a b _ (Int.not_le.1 hl)).mono ?_; rintro e w' ⟨rfl, rfl⟩; go_wp2_with fail)
  all_goals
    by_cases hm1 : m ≤ 255
  all_goals
    first
    | (refine (mul8_yes a b m _ ha ha' (by omega) hb' hm hm1).mono ?_; rintro e w' ⟨rfl, rfl⟩; go_wp2_with fail)
    | (refine (mul8_no a b _ ha ha' (by omega) hb' (by rw [hm.out]; exact Int.not_le.1 hm1)).mono ?_; rintro e w' ⟨rfl, rfl⟩; go_wp2_with fail)
  all_goals
    refine (up8_is a b _ ha hb hr).mono ?_; rintro e w' ⟨rfl, rfl⟩
    go_wp2_with fail
    refine (up8_zero a _).mono ?_; rintro e w' ⟨rfl, rfl⟩
    go_wp2_with fail
    refine (up8_is a 1 _ ha (by omega) (Int.emod_one a)).mono ?_; rintro e w' ⟨rfl, rfl⟩
    go_wp2
    go_ret
    exact ⟨rfl, rfl⟩

set_option maxHeartbeats 2000000 in
theorem kin8_yes (a b m : Int) (w : World) (ha : 0 ≤ a) (ha' : a ≤ 255) (hb : 0 < b) (hb' : b ≤ 255) (hm : Hid (a * b = m)) (hm0 : 0 ≤ m) (hq : m / b = a) (hz : m % b = 0) (r : Int) (hr : a % b = r) (h0 : 0 < r) (h1 : r < b) (hu : a + (b - r) ≤ 255) (hv : (a + (b - r)) % b = 0) :
    Calls Try.prog 5 #[.int .u8 a, .int .u8 b] w fun e w' => e = .returned (.bool true) ∧ w' = w := by
  have := hm0; have := hq; have := hz; have := hv
  go_enter Try.func5, Try.ntmps5
  go_wp2_with fail
  by_cases hs : a + b ≤ 255
  all_goals
    first
    | (refine (add8_yes a b _ ha ha' (by omega) hb' hs).mono ?_; rintro e w' ⟨rfl, rfl⟩; go_wp2_with fail; refine (sub8_yes (a + b) b _ (by omega) hs (by omega) hb' (by omega)).mono ?_; rintro e w' ⟨rfl, rfl⟩; go_wp2_with fail)
    | (refine (add8_no a b _ ha ha' (by omega) hb' (Int.not_le.1 hs)).mono ?_; rintro e w' ⟨rfl, rfl⟩; go_wp2_with fail)
  all_goals
    by_cases hl : b ≤ a
  all_goals
    first
    | (refine (sub8_yes a b _ (by omega) (by omega) (by omega) hb' hl).mono ?_; rintro e w' ⟨rfl, rfl⟩; go_wp2_with fail; refine (add8_yes (a - b) b _ (by omega) (by omega) (by omega) hb' (by omega)).mono ?_; rintro e w' ⟨rfl, rfl⟩; go_wp2_with fail)
    | (refine (sub8_no a b _ (Int.not_le.1 hl)).mono ?_; rintro e w' ⟨rfl, rfl⟩; go_wp2_with fail)
  all_goals
    by_cases hm1 : m ≤ 255
  all_goals
    first
    | (refine (mul8_yes a b m _ ha ha' (by omega) hb' hm hm1).mono ?_; rintro e w' ⟨rfl, rfl⟩; go_wp2_with fail)
    | (refine (mul8_no a b _ ha ha' (by omega) hb' (by rw [hm.out]; exact Int.not_le.1 hm1)).mono ?_; rintro e w' ⟨rfl, rfl⟩; go_wp2_with fail)
  all_goals
    refine (up8_yes a b r _ ha ha' hb hb' hr h0 h1 hu).mono ?_; rintro e w' ⟨rfl, rfl⟩
    go_wp2_with fail
    refine (up8_zero a _).mono ?_; rintro e w' ⟨rfl, rfl⟩
    go_wp2_with fail
    refine (up8_is a 1 _ ha (by omega) (Int.emod_one a)).mono ?_; rintro e w' ⟨rfl, rfl⟩
    go_wp2
    go_ret
    exact ⟨rfl, rfl⟩

set_option maxHeartbeats 2000000 in
theorem kin8_no (a b m : Int) (w : World) (ha : 0 ≤ a) (ha' : a ≤ 255) (hb : 0 < b) (hb' : b ≤ 255) (hm : Hid (a * b = m)) (hm0 : 0 ≤ m) (hq : m / b = a) (hz : m % b = 0) (r : Int) (hr : a % b = r) (h0 : 0 < r) (h1 : r < b) (hu : 255 < a + (b - r)) :
    Calls Try.prog 5 #[.int .u8 a, .int .u8 b] w fun e w' => e = .returned (.bool true) ∧ w' = w := by
  have := hm0; have := hq; have := hz
  go_enter Try.func5, Try.ntmps5
  go_wp2_with fail
  by_cases hs : a + b ≤ 255
  all_goals
    first
    | (refine (add8_yes a b _ ha ha' (by omega) hb' hs).mono ?_; rintro e w' ⟨rfl, rfl⟩; go_wp2_with fail; refine (sub8_yes (a + b) b _ (by omega) hs (by omega) hb' (by omega)).mono ?_; rintro e w' ⟨rfl, rfl⟩; go_wp2_with fail)
    | (refine (add8_no a b _ ha ha' (by omega) hb' (Int.not_le.1 hs)).mono ?_; rintro e w' ⟨rfl, rfl⟩; go_wp2_with fail)
  all_goals
    by_cases hl : b ≤ a
  all_goals
    first
    | (refine (sub8_yes a b _ (by omega) (by omega) (by omega) hb' hl).mono ?_; rintro e w' ⟨rfl, rfl⟩; go_wp2_with fail; refine (add8_yes (a - b) b _ (by omega) (by omega) (by omega) hb' (by omega)).mono ?_; rintro e w' ⟨rfl, rfl⟩; go_wp2_with fail)
    | (refine (sub8_no a b _ (Int.not_le.1 hl)).mono ?_; rintro e w' ⟨rfl, rfl⟩; go_wp2_with fail)
  all_goals
    by_cases hm1 : m ≤ 255
  all_goals
    first
    | (refine (mul8_yes a b m _ ha ha' (by omega) hb' hm hm1).mono ?_; rintro e w' ⟨rfl, rfl⟩; go_wp2_with fail)
    | (refine (mul8_no a b _ ha ha' (by omega) hb' (by rw [hm.out]; exact Int.not_le.1 hm1)).mono ?_; rintro e w' ⟨rfl, rfl⟩; go_wp2_with fail)
  all_goals
    refine (up8_no a b r _ ha ha' hb hb' hr h0 h1 hu).mono ?_; rintro e w' ⟨rfl, rfl⟩
    go_wp2_with fail
    refine (up8_zero a _).mono ?_; rintro e w' ⟨rfl, rfl⟩
    go_wp2_with fail
    refine (up8_is a 1 _ ha (by omega) (Int.emod_one a)).mono ?_; rintro e w' ⟨rfl, rfl⟩
    go_wp2
    go_ret
    exact ⟨rfl, rfl⟩

set_option maxHeartbeats 2000000 in
theorem kin8_zero (a : Int) (w : World) (ha : 0 ≤ a) (ha' : a ≤ 255) :
    Calls Try.prog 5 #[.int .u8 a, .int .u8 0] w fun e w' => e = .returned (.bool true) ∧ w' = w := by
  go_enter Try.func5, Try.ntmps5
  go_wp2_with fail
  refine (add8_yes a 0 _ ha ha' (by omega) (by omega) (by omega)).mono ?_; rintro e w' ⟨rfl, rfl⟩
  rw [Int.add_zero]
  go_wp2_with fail
  refine (sub8_yes a 0 _ ha ha' (by omega) (by omega) (by omega)).mono ?_; rintro e w' ⟨rfl, rfl⟩
  rw [Int.sub_zero]
  go_wp2_with fail
  refine (sub8_yes a 0 _ ha ha' (by omega) (by omega) (by omega)).mono ?_; rintro e w' ⟨rfl, rfl⟩
  rw [Int.sub_zero]
  go_wp2_with fail
  refine (add8_yes a 0 _ ha ha' (by omega) (by omega) (by omega)).mono ?_; rintro e w' ⟨rfl, rfl⟩
  rw [Int.add_zero]
  go_wp2_with fail
  refine (mul8_yes a 0 0 _ ha ha' (by omega) (by omega) (Int.mul_zero a) (by omega)).mono ?_; rintro e w' ⟨rfl, rfl⟩
  go_wp2_with fail
  refine (up8_zero a _).mono ?_; rintro e w' ⟨rfl, rfl⟩
  go_wp2_with fail
  refine (up8_zero a _).mono ?_; rintro e w' ⟨rfl, rfl⟩
  go_wp2_with fail
  refine (up8_is a 1 _ ha (by omega) (Int.emod_one a)).mono ?_; rintro e w' ⟨rfl, rfl⟩
  go_wp2
  go_ret
  exact ⟨rfl, rfl⟩

theorem kin8 (a b : Int) (w : World) (ha : 0 ≤ a) (ha' : a ≤ 255) (hb : 0 ≤ b) (hb' : b ≤ 255) :
    Calls Try.prog 5 #[.int .u8 a, .int .u8 b] w fun e w' => e = .returned (.bool true) ∧ w' = w := by
  by_cases hb0 : b = 0
  · subst hb0; exact kin8_zero a w ha ha'
  · have hp : 0 < b := by omega
    have r0 : 0 ≤ a % b := Int.emod_nonneg a (by omega)
    have r1 : a % b < b := Int.emod_lt_of_pos a hp
    have hm0 : 0 ≤ a * b := prod_nonneg ha hb
    by_cases hr : a % b = 0
    · exact kin8_is a b _ w ha ha' hp hb' rfl hm0 (div_of hp rfl) (mod_of rfl) hr
    · by_cases hu : a + (b - a % b) ≤ 255
      · exact kin8_yes a b _ w ha ha' hp hb' rfl hm0 (div_of hp rfl) (mod_of rfl) _ rfl (by omega) r1 hu (up_mod rfl)
      · exact kin8_no a b _ w ha ha' hp hb' rfl hm0 (div_of hp rfl) (mod_of rfl) _ rfl (by omega) r1 (by omega)

end Go.Proofs.Ytphlfkkbkkocmab
