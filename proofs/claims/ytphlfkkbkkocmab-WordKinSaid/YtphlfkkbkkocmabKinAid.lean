import Derived.Test.YtphlfkkbkkocmabSums
namespace Go.Proofs.Ytphlfkkbkkocmab
open Go.RowKit
theorem div_of {a b m : Int} (hb : 0 < b) (hm : a * b = m) : m / b = a := by rw [← hm]; exact Int.mul_ediv_cancel a (by omega)
theorem mod_of {a b m : Int} (hm : a * b = m) : m % b = 0 := by rw [← hm]; exact Int.mul_emod_left a b
theorem up_mod {a b r : Int} (hr : a % b = r) : (a + (b - r)) % b = 0 := by
  rw [← hr, show a + (b - a % b) = (a - a % b) + b from by omega, Int.add_emod_right]
  exact Int.emod_eq_zero_of_dvd (Int.dvd_self_sub_emod)

end Go.Proofs.Ytphlfkkbkkocmab
