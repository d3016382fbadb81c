import Derived.Test.YtphlfkkbkkocmabLeaf
namespace Go.Proofs.Ytphlfkkbkkocmab
open Go.RowKit
def ren264 : Go.Shelf.Ren := ⟨fun | 264 => 35 | n => n, fun | 53 => 22 | 46 => 59 | n => n, fun | n => n⟩
theorem lays264 : Go.Proofs.Lays.n264 Try.prog ren264 := {
  mixed := by kernel_rfl
  f264 := Try.func35.trans (congrArg some (by kernel_rfl))
  t46 := Try.underlying59
  a46 := Try.isAgg59
  z46 := Try.sizeOf59
  v46 := Try.zeroValue59
  t53 := Try.underlying22
  a53 := Try.isAgg22
  z53 := Try.sizeOf22
  v53 := Try.zeroValue22 }
/-- bits.Mul64, by the library's contract. -/
theorem mul64_nat (x y : Nat) (hx : x < 18446744073709551616) (hy : y < 18446744073709551616) (w : World) :
    Calls Try.prog 35 #[.int .u64 x, .int .u64 y] w fun e w' => e = .returned (.tuple #[.int .u64 ((x * y / 18446744073709551616 : Nat) : Int), .int .u64 ((x * y % 18446744073709551616 : Nat) : Int)]) ∧ w' = w :=
  Any.bits_Mul64 lays264 x y hx hy w
/-- the product is a number of 64 bits: its upper half is 0. -/
theorem bits64_yes (a b m : Int) (w : World) (ha : 0 ≤ a) (ha' : a ≤ 18446744073709551615) (hb : 0 ≤ b) (hb' : b ≤ 18446744073709551615) (hm : Hid (a * b = m)) (h : m ≤ 18446744073709551615) :
    Calls Try.prog 35 #[.int .u64 a, .int .u64 b] w fun e w' => e = .returned (.tuple #[.int .u64 0, .int .u64 m]) ∧ w' = w := by
  obtain ⟨x, rfl⟩ := Int.eq_ofNat_of_zero_le ha
  obtain ⟨y, rfl⟩ := Int.eq_ofNat_of_zero_le hb
  have hm := hm.out
  subst hm
  rw [← Int.natCast_mul] at h ⊢
  have h1 : x * y / 18446744073709551616 = 0 := Nat.div_eq_of_lt (by omega)
  have h2 : x * y % 18446744073709551616 = x * y := Nat.mod_eq_of_lt (by omega)
  have c := mul64_nat x y (by omega) (by omega) w
  rw [h1, h2] at c
  exact c
/-- it is not: the upper half is not 0. -/
theorem bits64_no (a b : Int) (w : World) (ha : 0 ≤ a) (ha' : a ≤ 18446744073709551615) (hb : 0 ≤ b) (hb' : b ≤ 18446744073709551615) (h : 18446744073709551615 < a * b) :
    Calls Try.prog 35 #[.int .u64 a, .int .u64 b] w fun e w' => ∃ hi lo : Int, e = .returned (.tuple #[.int .u64 hi, .int .u64 lo]) ∧ 0 < hi ∧ w' = w := by
  obtain ⟨x, rfl⟩ := Int.eq_ofNat_of_zero_le ha
  obtain ⟨y, rfl⟩ := Int.eq_ofNat_of_zero_le hb
  rw [← Int.natCast_mul] at h
  refine (mul64_nat x y (by omega) (by omega) w).mono ?_
  rintro e w' ⟨he, hw⟩
  refine ⟨_, _, he, ?_, hw⟩
  have : 0 < x * y / 18446744073709551616 := Nat.div_pos (by omega) (by omega)
  omega
theorem prod_nonneg {a b : Int} (ha : 0 ≤ a) (hb : 0 ≤ b) : 0 ≤ a * b := Int.mul_nonneg ha hb
theorem prod_le {a b M : Int} (ha : 0 ≤ a) (ha' : a ≤ M) (hb : 0 ≤ b) (hb' : b ≤ M) : a * b ≤ M * M := Int.mul_le_mul ha' hb' hb (by omega)

set_option maxHeartbeats 400000 in
theorem mul8_yes (a b m : Int) (w : World) (ha : 0 ≤ a) (ha' : a ≤ 255) (hb : 0 ≤ b) (hb' : b ≤ 255) (hm : Hid (a * b = m)) (h : m ≤ 255) :
    Calls Try.prog 13 #[.int .u8 a, .int .u8 b] w fun e w' => e = .returned (.tuple #[.int .u8 m, .bool true]) ∧ w' = w := by
  have h0 : 0 ≤ m := by rw [← hm.out]; exact prod_nonneg ha hb
  go_enter Try.func13, Try.ntmps13
  go_wp2_with (first | (go_at_call 35; refine (bits64_yes a b m _ (by omega) (by omega) (by omega) (by omega) hm (by omega)).mono ?_; rintro e w' ⟨rfl, rfl⟩) | (go_at_call 36; refine (to8_yes m _ h0 h).mono ?_; rintro e w' ⟨rfl, rfl⟩))
  go_ret2
  exact ⟨rfl, rfl⟩

set_option maxHeartbeats 400000 in
theorem mul8_no (a b : Int) (w : World) (ha : 0 ≤ a) (ha' : a ≤ 255) (hb : 0 ≤ b) (hb' : b ≤ 255) (h : Hid (255 < a * b)) :
    Calls Try.prog 13 #[.int .u8 a, .int .u8 b] w fun e w' => e = .returned (.tuple #[.int .u8 0, .bool false]) ∧ w' = w := by
  obtain ⟨m, hm0⟩ : ∃ m, a * b = m := ⟨_, rfl⟩
  have h1 : 255 < m := by rw [← hm0]; exact h.out
  have h2 : m ≤ 18446744073709551615 := by rw [← hm0]; exact Int.le_trans (prod_le ha ha' hb hb') (by decide)
  have hm : Hid (a * b = m) := hm0
  clear hm0
  go_enter Try.func13, Try.ntmps13
  go_wp2_with (first | (go_at_call 35; refine (bits64_yes a b m _ (by omega) (by omega) (by omega) (by omega) hm (by omega)).mono ?_; rintro e w' ⟨rfl, rfl⟩) | (go_at_call 36; refine (to8_no m _ h2 h1).mono ?_; rintro e w' ⟨rfl, rfl⟩))
  go_ret2
  exact ⟨rfl, rfl⟩

set_option maxHeartbeats 400000 in
theorem up8_zero (a : Int) (w : World) :
    Calls Try.prog 14 #[.int .u8 a, .int .u8 0] w fun e w' => e = .returned (.tuple #[.int .u8 0, .bool false]) ∧ w' = w := by
  go_enter Try.func14, Try.ntmps14
  go_wp2
  go_ret2
  exact ⟨rfl, rfl⟩

set_option maxHeartbeats 400000 in
theorem up8_is (a b : Int) (w : World) (ha : 0 ≤ a) (hb : 0 < b) (h : a % b = 0) :
    Calls Try.prog 14 #[.int .u8 a, .int .u8 b] w fun e w' => e = .returned (.tuple #[.int .u8 a, .bool true]) ∧ w' = w := by
  have := ha; have := hb; have := h
  go_enter Try.func14, Try.ntmps14
  go_wp2
  go_ret2
  exact ⟨rfl, rfl⟩

set_option maxHeartbeats 400000 in
theorem up8_yes (a b r : Int) (w : World) (ha : 0 ≤ a) (ha' : a ≤ 255) (hb : 0 < b) (hb' : b ≤ 255) (hr : a % b = r) (h0 : 0 < r) (h1 : r < b) (h : a + (b - r) ≤ 255) :
    Calls Try.prog 14 #[.int .u8 a, .int .u8 b] w fun e w' => e = .returned (.tuple #[.int .u8 (a + (b - r)), .bool true]) ∧ w' = w := by
  have := hr
  go_enter Try.func14, Try.ntmps14
  go_wp2_with (go_at_call 4; refine (add8_yes a (b - r) _ ha ha' (by omega) (by omega) h).mono ?_; rintro e w' ⟨rfl, rfl⟩)
  go_ret2
  exact ⟨rfl, rfl⟩

set_option maxHeartbeats 400000 in
theorem up8_no (a b r : Int) (w : World) (ha : 0 ≤ a) (ha' : a ≤ 255) (hb : 0 < b) (hb' : b ≤ 255) (hr : a % b = r) (h0 : 0 < r) (h1 : r < b) (h : 255 < a + (b - r)) :
    Calls Try.prog 14 #[.int .u8 a, .int .u8 b] w fun e w' => e = .returned (.tuple #[.int .u8 0, .bool false]) ∧ w' = w := by
  have := hr
  go_enter Try.func14, Try.ntmps14
  go_wp2_with (go_at_call 4; refine (add8_no a (b - r) _ ha ha' (by omega) (by omega) h).mono ?_; rintro e w' ⟨rfl, rfl⟩)
  go_ret2
  exact ⟨rfl, rfl⟩

set_option maxHeartbeats 400000 in
theorem mul16_yes (a b m : Int) (w : World) (ha : 0 ≤ a) (ha' : a ≤ 65535) (hb : 0 ≤ b) (hb' : b ≤ 65535) (hm : Hid (a * b = m)) (h : m ≤ 65535) :
    Calls Try.prog 17 #[.int .u16 a, .int .u16 b] w fun e w' => e = .returned (.tuple #[.int .u16 m, .bool true]) ∧ w' = w := by
  have h0 : 0 ≤ m := by rw [← hm.out]; exact prod_nonneg ha hb
  go_enter Try.func17, Try.ntmps17
  go_wp2_with (first | (go_at_call 35; refine (bits64_yes a b m _ (by omega) (by omega) (by omega) (by omega) hm (by omega)).mono ?_; rintro e w' ⟨rfl, rfl⟩) | (go_at_call 38; refine (to16_yes m _ h0 h).mono ?_; rintro e w' ⟨rfl, rfl⟩))
  go_ret2
  exact ⟨rfl, rfl⟩

set_option maxHeartbeats 400000 in
theorem mul16_no (a b : Int) (w : World) (ha : 0 ≤ a) (ha' : a ≤ 65535) (hb : 0 ≤ b) (hb' : b ≤ 65535) (h : Hid (65535 < a * b)) :
    Calls Try.prog 17 #[.int .u16 a, .int .u16 b] w fun e w' => e = .returned (.tuple #[.int .u16 0, .bool false]) ∧ w' = w := by
  obtain ⟨m, hm0⟩ : ∃ m, a * b = m := ⟨_, rfl⟩
  have h1 : 65535 < m := by rw [← hm0]; exact h.out
  have h2 : m ≤ 18446744073709551615 := by rw [← hm0]; exact Int.le_trans (prod_le ha ha' hb hb') (by decide)
  have hm : Hid (a * b = m) := hm0
  clear hm0
  go_enter Try.func17, Try.ntmps17
  go_wp2_with (first | (go_at_call 35; refine (bits64_yes a b m _ (by omega) (by omega) (by omega) (by omega) hm (by omega)).mono ?_; rintro e w' ⟨rfl, rfl⟩) | (go_at_call 38; refine (to16_no m _ h2 h1).mono ?_; rintro e w' ⟨rfl, rfl⟩))
  go_ret2
  exact ⟨rfl, rfl⟩

set_option maxHeartbeats 400000 in
theorem up16_zero (a : Int) (w : World) :
    Calls Try.prog 18 #[.int .u16 a, .int .u16 0] w fun e w' => e = .returned (.tuple #[.int .u16 0, .bool false]) ∧ w' = w := by
  go_enter Try.func18, Try.ntmps18
  go_wp2
  go_ret2
  exact ⟨rfl, rfl⟩

set_option maxHeartbeats 400000 in
theorem up16_is (a b : Int) (w : World) (ha : 0 ≤ a) (hb : 0 < b) (h : a % b = 0) :
    Calls Try.prog 18 #[.int .u16 a, .int .u16 b] w fun e w' => e = .returned (.tuple #[.int .u16 a, .bool true]) ∧ w' = w := by
  have := ha; have := hb; have := h
  go_enter Try.func18, Try.ntmps18
  go_wp2
  go_ret2
  exact ⟨rfl, rfl⟩

set_option maxHeartbeats 400000 in
theorem up16_yes (a b r : Int) (w : World) (ha : 0 ≤ a) (ha' : a ≤ 65535) (hb : 0 < b) (hb' : b ≤ 65535) (hr : a % b = r) (h0 : 0 < r) (h1 : r < b) (h : a + (b - r) ≤ 65535) :
    Calls Try.prog 18 #[.int .u16 a, .int .u16 b] w fun e w' => e = .returned (.tuple #[.int .u16 (a + (b - r)), .bool true]) ∧ w' = w := by
  have := hr
  go_enter Try.func18, Try.ntmps18
  go_wp2_with (go_at_call 15; refine (add16_yes a (b - r) _ ha ha' (by omega) (by omega) h).mono ?_; rintro e w' ⟨rfl, rfl⟩)
  go_ret2
  exact ⟨rfl, rfl⟩

set_option maxHeartbeats 400000 in
theorem up16_no (a b r : Int) (w : World) (ha : 0 ≤ a) (ha' : a ≤ 65535) (hb : 0 < b) (hb' : b ≤ 65535) (hr : a % b = r) (h0 : 0 < r) (h1 : r < b) (h : 65535 < a + (b - r)) :
    Calls Try.prog 18 #[.int .u16 a, .int .u16 b] w fun e w' => e = .returned (.tuple #[.int .u16 0, .bool false]) ∧ w' = w := by
  have := hr
  go_enter Try.func18, Try.ntmps18
  go_wp2_with (go_at_call 15; refine (add16_no a (b - r) _ ha ha' (by omega) (by omega) h).mono ?_; rintro e w' ⟨rfl, rfl⟩)
  go_ret2
  exact ⟨rfl, rfl⟩

set_option maxHeartbeats 400000 in
theorem mul32_yes (a b m : Int) (w : World) (ha : 0 ≤ a) (ha' : a ≤ 4294967295) (hb : 0 ≤ b) (hb' : b ≤ 4294967295) (hm : Hid (a * b = m)) (h : m ≤ 4294967295) :
    Calls Try.prog 21 #[.int .u32 a, .int .u32 b] w fun e w' => e = .returned (.tuple #[.int .u32 m, .bool true]) ∧ w' = w := by
  have h0 : 0 ≤ m := by rw [← hm.out]; exact prod_nonneg ha hb
  go_enter Try.func21, Try.ntmps21
  go_wp2_with (first | (go_at_call 35; refine (bits64_yes a b m _ (by omega) (by omega) (by omega) (by omega) hm (by omega)).mono ?_; rintro e w' ⟨rfl, rfl⟩) | (go_at_call 40; refine (to32_yes m _ h0 h).mono ?_; rintro e w' ⟨rfl, rfl⟩))
  go_ret2
  exact ⟨rfl, rfl⟩

set_option maxHeartbeats 400000 in
theorem mul32_no (a b : Int) (w : World) (ha : 0 ≤ a) (ha' : a ≤ 4294967295) (hb : 0 ≤ b) (hb' : b ≤ 4294967295) (h : Hid (4294967295 < a * b)) :
    Calls Try.prog 21 #[.int .u32 a, .int .u32 b] w fun e w' => e = .returned (.tuple #[.int .u32 0, .bool false]) ∧ w' = w := by
  obtain ⟨m, hm0⟩ : ∃ m, a * b = m := ⟨_, rfl⟩
  have h1 : 4294967295 < m := by rw [← hm0]; exact h.out
  have h2 : m ≤ 18446744073709551615 := by rw [← hm0]; exact Int.le_trans (prod_le ha ha' hb hb') (by decide)
  have hm : Hid (a * b = m) := hm0
  clear hm0
  go_enter Try.func21, Try.ntmps21
  go_wp2_with (first | (go_at_call 35; refine (bits64_yes a b m _ (by omega) (by omega) (by omega) (by omega) hm (by omega)).mono ?_; rintro e w' ⟨rfl, rfl⟩) | (go_at_call 40; refine (to32_no m _ h2 h1).mono ?_; rintro e w' ⟨rfl, rfl⟩))
  go_ret2
  exact ⟨rfl, rfl⟩

set_option maxHeartbeats 400000 in
theorem up32_zero (a : Int) (w : World) :
    Calls Try.prog 22 #[.int .u32 a, .int .u32 0] w fun e w' => e = .returned (.tuple #[.int .u32 0, .bool false]) ∧ w' = w := by
  go_enter Try.func22, Try.ntmps22
  go_wp2
  go_ret2
  exact ⟨rfl, rfl⟩

set_option maxHeartbeats 400000 in
theorem up32_is (a b : Int) (w : World) (ha : 0 ≤ a) (hb : 0 < b) (h : a % b = 0) :
    Calls Try.prog 22 #[.int .u32 a, .int .u32 b] w fun e w' => e = .returned (.tuple #[.int .u32 a, .bool true]) ∧ w' = w := by
  have := ha; have := hb; have := h
  go_enter Try.func22, Try.ntmps22
  go_wp2
  go_ret2
  exact ⟨rfl, rfl⟩

set_option maxHeartbeats 400000 in
theorem up32_yes (a b r : Int) (w : World) (ha : 0 ≤ a) (ha' : a ≤ 4294967295) (hb : 0 < b) (hb' : b ≤ 4294967295) (hr : a % b = r) (h0 : 0 < r) (h1 : r < b) (h : a + (b - r) ≤ 4294967295) :
    Calls Try.prog 22 #[.int .u32 a, .int .u32 b] w fun e w' => e = .returned (.tuple #[.int .u32 (a + (b - r)), .bool true]) ∧ w' = w := by
  have := hr
  go_enter Try.func22, Try.ntmps22
  go_wp2_with (go_at_call 19; refine (add32_yes a (b - r) _ ha ha' (by omega) (by omega) h).mono ?_; rintro e w' ⟨rfl, rfl⟩)
  go_ret2
  exact ⟨rfl, rfl⟩

set_option maxHeartbeats 400000 in
theorem up32_no (a b r : Int) (w : World) (ha : 0 ≤ a) (ha' : a ≤ 4294967295) (hb : 0 < b) (hb' : b ≤ 4294967295) (hr : a % b = r) (h0 : 0 < r) (h1 : r < b) (h : 4294967295 < a + (b - r)) :
    Calls Try.prog 22 #[.int .u32 a, .int .u32 b] w fun e w' => e = .returned (.tuple #[.int .u32 0, .bool false]) ∧ w' = w := by
  have := hr
  go_enter Try.func22, Try.ntmps22
  go_wp2_with (go_at_call 19; refine (add32_no a (b - r) _ ha ha' (by omega) (by omega) h).mono ?_; rintro e w' ⟨rfl, rfl⟩)
  go_ret2
  exact ⟨rfl, rfl⟩

set_option maxHeartbeats 400000 in
theorem mul64_yes (a b m : Int) (w : World) (ha : 0 ≤ a) (ha' : a ≤ 18446744073709551615) (hb : 0 ≤ b) (hb' : b ≤ 18446744073709551615) (hm : Hid (a * b = m)) (h : m ≤ 18446744073709551615) :
    Calls Try.prog 25 #[.int .u64 a, .int .u64 b] w fun e w' => e = .returned (.tuple #[.int .u64 m, .bool true]) ∧ w' = w := by
  have h0 : 0 ≤ m := by rw [← hm.out]; exact prod_nonneg ha hb
  go_enter Try.func25, Try.ntmps25
  go_wp2_with (first | (go_at_call 35; refine (bits64_yes a b m _ (by omega) (by omega) (by omega) (by omega) hm (by omega)).mono ?_; rintro e w' ⟨rfl, rfl⟩) | (go_at_call 42; refine (to64_yes m _ h0 h).mono ?_; rintro e w' ⟨rfl, rfl⟩))
  go_ret2
  exact ⟨rfl, rfl⟩

set_option maxHeartbeats 400000 in
theorem mul64_no (a b : Int) (w : World) (ha : 0 ≤ a) (ha' : a ≤ 18446744073709551615) (hb : 0 ≤ b) (hb' : b ≤ 18446744073709551615) (h : Hid (18446744073709551615 < a * b)) :
    Calls Try.prog 25 #[.int .u64 a, .int .u64 b] w fun e w' => e = .returned (.tuple #[.int .u64 0, .bool false]) ∧ w' = w := by
  go_enter Try.func25, Try.ntmps25
  go_wp2_with (go_at_call 35; refine (bits64_no a b _ ha ha' hb hb' h.out).mono ?_; rintro e w' ⟨hi, lo, rfl, hp, rfl⟩)
  go_ret2
  exact ⟨rfl, rfl⟩

set_option maxHeartbeats 400000 in
theorem up64_zero (a : Int) (w : World) :
    Calls Try.prog 26 #[.int .u64 a, .int .u64 0] w fun e w' => e = .returned (.tuple #[.int .u64 0, .bool false]) ∧ w' = w := by
  go_enter Try.func26, Try.ntmps26
  go_wp2
  go_ret2
  exact ⟨rfl, rfl⟩

set_option maxHeartbeats 400000 in
theorem up64_is (a b : Int) (w : World) (ha : 0 ≤ a) (hb : 0 < b) (h : a % b = 0) :
    Calls Try.prog 26 #[.int .u64 a, .int .u64 b] w fun e w' => e = .returned (.tuple #[.int .u64 a, .bool true]) ∧ w' = w := by
  have := ha; have := hb; have := h
  go_enter Try.func26, Try.ntmps26
  go_wp2
  go_ret2
  exact ⟨rfl, rfl⟩

set_option maxHeartbeats 400000 in
theorem up64_yes (a b r : Int) (w : World) (ha : 0 ≤ a) (ha' : a ≤ 18446744073709551615) (hb : 0 < b) (hb' : b ≤ 18446744073709551615) (hr : a % b = r) (h0 : 0 < r) (h1 : r < b) (h : a + (b - r) ≤ 18446744073709551615) :
    Calls Try.prog 26 #[.int .u64 a, .int .u64 b] w fun e w' => e = .returned (.tuple #[.int .u64 (a + (b - r)), .bool true]) ∧ w' = w := by
  have := hr
  go_enter Try.func26, Try.ntmps26
  go_wp2_with (go_at_call 23; refine (add64_yes a (b - r) _ ha ha' (by omega) (by omega) h).mono ?_; rintro e w' ⟨rfl, rfl⟩)
  go_ret2
  exact ⟨rfl, rfl⟩

set_option maxHeartbeats 400000 in
theorem up64_no (a b r : Int) (w : World) (ha : 0 ≤ a) (ha' : a ≤ 18446744073709551615) (hb : 0 < b) (hb' : b ≤ 18446744073709551615) (hr : a % b = r) (h0 : 0 < r) (h1 : r < b) (h : 18446744073709551615 < a + (b - r)) :
    Calls Try.prog 26 #[.int .u64 a, .int .u64 b] w fun e w' => e = .returned (.tuple #[.int .u64 0, .bool false]) ∧ w' = w := by
  have := hr
  go_enter Try.func26, Try.ntmps26
  go_wp2_with (go_at_call 23; refine (add64_no a (b - r) _ ha ha' (by omega) (by omega) h).mono ?_; rintro e w' ⟨rfl, rfl⟩)
  go_ret2
  exact ⟨rfl, rfl⟩

set_option maxHeartbeats 400000 in
theorem mulT_yes (a b m : Int) (w : World) (ha : 0 ≤ a) (ha' : a ≤ 255) (hb : 0 ≤ b) (hb' : b ≤ 255) (hm : Hid (a * b = m)) (h : m ≤ 255) :
    Calls Try.prog 29 #[.int .u8 a, .int .u8 b] w fun e w' => e = .returned (.tuple #[.int .u8 m, .bool true]) ∧ w' = w := by
  have h0 : 0 ≤ m := by rw [← hm.out]; exact prod_nonneg ha hb
  go_enter Try.func29, Try.ntmps29
  go_wp2_with (first | (go_at_call 35; refine (bits64_yes a b m _ (by omega) (by omega) (by omega) (by omega) hm (by omega)).mono ?_; rintro e w' ⟨rfl, rfl⟩) | (go_at_call 44; refine (toT_yes m _ h0 h).mono ?_; rintro e w' ⟨rfl, rfl⟩))
  go_ret2
  exact ⟨rfl, rfl⟩

set_option maxHeartbeats 400000 in
theorem mulT_no (a b : Int) (w : World) (ha : 0 ≤ a) (ha' : a ≤ 255) (hb : 0 ≤ b) (hb' : b ≤ 255) (h : Hid (255 < a * b)) :
    Calls Try.prog 29 #[.int .u8 a, .int .u8 b] w fun e w' => e = .returned (.tuple #[.int .u8 0, .bool false]) ∧ w' = w := by
  obtain ⟨m, hm0⟩ : ∃ m, a * b = m := ⟨_, rfl⟩
  have h1 : 255 < m := by rw [← hm0]; exact h.out
  have h2 : m ≤ 18446744073709551615 := by rw [← hm0]; exact Int.le_trans (prod_le ha ha' hb hb') (by decide)
  have hm : Hid (a * b = m) := hm0
  clear hm0
  go_enter Try.func29, Try.ntmps29
  go_wp2_with (first | (go_at_call 35; refine (bits64_yes a b m _ (by omega) (by omega) (by omega) (by omega) hm (by omega)).mono ?_; rintro e w' ⟨rfl, rfl⟩) | (go_at_call 44; refine (toT_no m _ h2 h1).mono ?_; rintro e w' ⟨rfl, rfl⟩))
  go_ret2
  exact ⟨rfl, rfl⟩

set_option maxHeartbeats 400000 in
theorem upT_zero (a : Int) (w : World) :
    Calls Try.prog 30 #[.int .u8 a, .int .u8 0] w fun e w' => e = .returned (.tuple #[.int .u8 0, .bool false]) ∧ w' = w := by
  go_enter Try.func30, Try.ntmps30
  go_wp2
  go_ret2
  exact ⟨rfl, rfl⟩

set_option maxHeartbeats 400000 in
theorem upT_is (a b : Int) (w : World) (ha : 0 ≤ a) (hb : 0 < b) (h : a % b = 0) :
    Calls Try.prog 30 #[.int .u8 a, .int .u8 b] w fun e w' => e = .returned (.tuple #[.int .u8 a, .bool true]) ∧ w' = w := by
  have := ha; have := hb; have := h
  go_enter Try.func30, Try.ntmps30
  go_wp2
  go_ret2
  exact ⟨rfl, rfl⟩

set_option maxHeartbeats 400000 in
theorem upT_yes (a b r : Int) (w : World) (ha : 0 ≤ a) (ha' : a ≤ 255) (hb : 0 < b) (hb' : b ≤ 255) (hr : a % b = r) (h0 : 0 < r) (h1 : r < b) (h : a + (b - r) ≤ 255) :
    Calls Try.prog 30 #[.int .u8 a, .int .u8 b] w fun e w' => e = .returned (.tuple #[.int .u8 (a + (b - r)), .bool true]) ∧ w' = w := by
  have := hr
  go_enter Try.func30, Try.ntmps30
  go_wp2_with (go_at_call 27; refine (addT_yes a (b - r) _ ha ha' (by omega) (by omega) h).mono ?_; rintro e w' ⟨rfl, rfl⟩)
  go_ret2
  exact ⟨rfl, rfl⟩

set_option maxHeartbeats 400000 in
theorem upT_no (a b r : Int) (w : World) (ha : 0 ≤ a) (ha' : a ≤ 255) (hb : 0 < b) (hb' : b ≤ 255) (hr : a % b = r) (h0 : 0 < r) (h1 : r < b) (h : 255 < a + (b - r)) :
    Calls Try.prog 30 #[.int .u8 a, .int .u8 b] w fun e w' => e = .returned (.tuple #[.int .u8 0, .bool false]) ∧ w' = w := by
  have := hr
  go_enter Try.func30, Try.ntmps30
  go_wp2_with (go_at_call 27; refine (addT_no a (b - r) _ ha ha' (by omega) (by omega) h).mono ?_; rintro e w' ⟨rfl, rfl⟩)
  go_ret2
  exact ⟨rfl, rfl⟩

set_option maxHeartbeats 400000 in
theorem mulG_yes (a b m : Int) (w : World) (ha : 0 ≤ a) (ha' : a ≤ 18446744073709551615) (hb : 0 ≤ b) (hb' : b ≤ 18446744073709551615) (hm : Hid (a * b = m)) (h : m ≤ 18446744073709551615) :
    Calls Try.prog 33 #[.int .u64 a, .int .u64 b] w fun e w' => e = .returned (.tuple #[.int .u64 m, .bool true]) ∧ w' = w := by
  have h0 : 0 ≤ m := by rw [← hm.out]; exact prod_nonneg ha hb
  go_enter Try.func33, Try.ntmps33
  go_wp2_with (first | (go_at_call 35; refine (bits64_yes a b m _ (by omega) (by omega) (by omega) (by omega) hm (by omega)).mono ?_; rintro e w' ⟨rfl, rfl⟩) | (go_at_call 46; refine (toG_yes m _ h0 h).mono ?_; rintro e w' ⟨rfl, rfl⟩))
  go_ret2
  exact ⟨rfl, rfl⟩

set_option maxHeartbeats 400000 in
theorem mulG_no (a b : Int) (w : World) (ha : 0 ≤ a) (ha' : a ≤ 18446744073709551615) (hb : 0 ≤ b) (hb' : b ≤ 18446744073709551615) (h : Hid (18446744073709551615 < a * b)) :
    Calls Try.prog 33 #[.int .u64 a, .int .u64 b] w fun e w' => e = .returned (.tuple #[.int .u64 0, .bool false]) ∧ w' = w := by
  go_enter Try.func33, Try.ntmps33
  go_wp2_with (go_at_call 35; refine (bits64_no a b _ ha ha' hb hb' h.out).mono ?_; rintro e w' ⟨hi, lo, rfl, hp, rfl⟩)
  go_ret2
  exact ⟨rfl, rfl⟩

set_option maxHeartbeats 400000 in
theorem upG_zero (a : Int) (w : World) :
    Calls Try.prog 34 #[.int .u64 a, .int .u64 0] w fun e w' => e = .returned (.tuple #[.int .u64 0, .bool false]) ∧ w' = w := by
  go_enter Try.func34, Try.ntmps34
  go_wp2
  go_ret2
  exact ⟨rfl, rfl⟩

set_option maxHeartbeats 400000 in
theorem upG_is (a b : Int) (w : World) (ha : 0 ≤ a) (hb : 0 < b) (h : a % b = 0) :
    Calls Try.prog 34 #[.int .u64 a, .int .u64 b] w fun e w' => e = .returned (.tuple #[.int .u64 a, .bool true]) ∧ w' = w := by
  have := ha; have := hb; have := h
  go_enter Try.func34, Try.ntmps34
  go_wp2
  go_ret2
  exact ⟨rfl, rfl⟩

set_option maxHeartbeats 400000 in
theorem upG_yes (a b r : Int) (w : World) (ha : 0 ≤ a) (ha' : a ≤ 18446744073709551615) (hb : 0 < b) (hb' : b ≤ 18446744073709551615) (hr : a % b = r) (h0 : 0 < r) (h1 : r < b) (h : a + (b - r) ≤ 18446744073709551615) :
    Calls Try.prog 34 #[.int .u64 a, .int .u64 b] w fun e w' => e = .returned (.tuple #[.int .u64 (a + (b - r)), .bool true]) ∧ w' = w := by
  have := hr
  go_enter Try.func34, Try.ntmps34
  go_wp2_with (go_at_call 31; refine (addG_yes a (b - r) _ ha ha' (by omega) (by omega) h).mono ?_; rintro e w' ⟨rfl, rfl⟩)
  go_ret2
  exact ⟨rfl, rfl⟩

set_option maxHeartbeats 400000 in
theorem upG_no (a b r : Int) (w : World) (ha : 0 ≤ a) (ha' : a ≤ 18446744073709551615) (hb : 0 < b) (hb' : b ≤ 18446744073709551615) (hr : a % b = r) (h0 : 0 < r) (h1 : r < b) (h : 18446744073709551615 < a + (b - r)) :
    Calls Try.prog 34 #[.int .u64 a, .int .u64 b] w fun e w' => e = .returned (.tuple #[.int .u64 0, .bool false]) ∧ w' = w := by
  have := hr
  go_enter Try.func34, Try.ntmps34
  go_wp2_with (go_at_call 31; refine (addG_no a (b - r) _ ha ha' (by omega) (by omega) h).mono ?_; rintro e w' ⟨rfl, rfl⟩)
  go_ret2
  exact ⟨rfl, rfl⟩

end Go.Proofs.Ytphlfkkbkkocmab
