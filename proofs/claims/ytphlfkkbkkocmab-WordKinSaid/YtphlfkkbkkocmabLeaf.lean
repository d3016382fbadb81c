import Derived.Test.YtphlfkkbkkocmabProg
import Derived.WalkKit
import Derived.WalkSpells
import Derived.WalkLawsBesides
import Derived.Shelf.Bits.Mul64
namespace Go.Proofs.Ytphlfkkbkkocmab
open Go.RowKit

set_option maxHeartbeats 400000 in
theorem great8 (w : World) : Calls Try.prog 11 #[] w fun e w' => e = .returned (.int .u8 255) ∧ w' = w := by
  go_enter Try.func11, Try.ntmps11
  go_wp2
  go_ret
  exact ⟨congrArg (fun z => Ending.returned (.int .u8 z)) (by decide), rfl⟩

set_option maxHeartbeats 400000 in
theorem add8_yes (a b : Int) (w : World) (ha : 0 ≤ a) (ha' : a ≤ 255) (hb : 0 ≤ b) (hb' : b ≤ 255) (h : a + b ≤ 255) :
    Calls Try.prog 4 #[.int .u8 a, .int .u8 b] w fun e w' => e = .returned (.tuple #[.int .u8 (a + b), .bool true]) ∧ w' = w := by
  have := hb; have := hb'; have := ha; have := ha'; have := h
  go_enter Try.func4, Try.ntmps4
  go_wp2_with (go_at_call 11; refine (great8 _).mono ?_; rintro e w' ⟨rfl, rfl⟩)
  go_ret2
  exact ⟨rfl, rfl⟩

set_option maxHeartbeats 400000 in
theorem add8_no (a b : Int) (w : World) (ha : 0 ≤ a) (ha' : a ≤ 255) (hb : 0 ≤ b) (hb' : b ≤ 255) (h : 255 < a + b) :
    Calls Try.prog 4 #[.int .u8 a, .int .u8 b] w fun e w' => e = .returned (.tuple #[.int .u8 0, .bool false]) ∧ w' = w := by
  have := hb; have := hb'; have := ha; have := ha'; have := h
  go_enter Try.func4, Try.ntmps4
  go_wp2_with (go_at_call 11; refine (great8 _).mono ?_; rintro e w' ⟨rfl, rfl⟩)
  go_ret2
  exact ⟨rfl, rfl⟩

set_option maxHeartbeats 400000 in
theorem sub8_yes (a b : Int) (w : World) (ha : 0 ≤ a) (ha' : a ≤ 255) (hb : 0 ≤ b) (hb' : b ≤ 255) (h : b ≤ a) :
    Calls Try.prog 12 #[.int .u8 a, .int .u8 b] w fun e w' => e = .returned (.tuple #[.int .u8 (a - b), .bool true]) ∧ w' = w := by
  have := hb; have := hb'; have := ha; have := ha'; have := h
  go_enter Try.func12, Try.ntmps12
  go_wp2
  go_ret2
  exact ⟨rfl, rfl⟩

set_option maxHeartbeats 400000 in
theorem sub8_no (a b : Int) (w : World) (h : a < b) :
    Calls Try.prog 12 #[.int .u8 a, .int .u8 b] w fun e w' => e = .returned (.tuple #[.int .u8 0, .bool false]) ∧ w' = w := by
  have := h
  go_enter Try.func12, Try.ntmps12
  go_wp2
  go_ret2
  exact ⟨rfl, rfl⟩

set_option maxHeartbeats 400000 in
theorem to8_yes (m : Int) (w : World) (hm : 0 ≤ m) (h : m ≤ 255) :
    Calls Try.prog 36 #[.int .u64 m] w fun e w' => e = .returned (.tuple #[.int .u8 m, .bool true]) ∧ w' = w := by
  have := h; have := hm
  go_enter Try.func36, Try.ntmps36
  go_wp2_with (go_at_call 11; refine (great8 _).mono ?_; rintro e w' ⟨rfl, rfl⟩)
  go_ret2
  exact ⟨rfl, rfl⟩

set_option maxHeartbeats 400000 in
theorem to8_no (m : Int) (w : World) (hm : m ≤ 18446744073709551615) (h : 255 < m) :
    Calls Try.prog 36 #[.int .u64 m] w fun e w' => e = .returned (.tuple #[.int .u8 0, .bool false]) ∧ w' = w := by
  have := h; have := hm
  go_enter Try.func36, Try.ntmps36
  go_wp2_with (go_at_call 11; refine (great8 _).mono ?_; rintro e w' ⟨rfl, rfl⟩)
  go_ret2
  exact ⟨rfl, rfl⟩

set_option maxHeartbeats 400000 in
theorem great16 (w : World) : Calls Try.prog 37 #[] w fun e w' => e = .returned (.int .u16 65535) ∧ w' = w := by
  go_enter Try.func37, Try.ntmps37
  go_wp2
  go_ret
  exact ⟨congrArg (fun z => Ending.returned (.int .u16 z)) (by decide), rfl⟩

set_option maxHeartbeats 400000 in
theorem add16_yes (a b : Int) (w : World) (ha : 0 ≤ a) (ha' : a ≤ 65535) (hb : 0 ≤ b) (hb' : b ≤ 65535) (h : a + b ≤ 65535) :
    Calls Try.prog 15 #[.int .u16 a, .int .u16 b] w fun e w' => e = .returned (.tuple #[.int .u16 (a + b), .bool true]) ∧ w' = w := by
  have := hb; have := hb'; have := ha; have := ha'; have := h
  go_enter Try.func15, Try.ntmps15
  go_wp2_with (go_at_call 37; refine (great16 _).mono ?_; rintro e w' ⟨rfl, rfl⟩)
  go_ret2
  exact ⟨rfl, rfl⟩

set_option maxHeartbeats 400000 in
theorem add16_no (a b : Int) (w : World) (ha : 0 ≤ a) (ha' : a ≤ 65535) (hb : 0 ≤ b) (hb' : b ≤ 65535) (h : 65535 < a + b) :
    Calls Try.prog 15 #[.int .u16 a, .int .u16 b] w fun e w' => e = .returned (.tuple #[.int .u16 0, .bool false]) ∧ w' = w := by
  have := hb; have := hb'; have := ha; have := ha'; have := h
  go_enter Try.func15, Try.ntmps15
  go_wp2_with (go_at_call 37; refine (great16 _).mono ?_; rintro e w' ⟨rfl, rfl⟩)
  go_ret2
  exact ⟨rfl, rfl⟩

set_option maxHeartbeats 400000 in
theorem sub16_yes (a b : Int) (w : World) (ha : 0 ≤ a) (ha' : a ≤ 65535) (hb : 0 ≤ b) (hb' : b ≤ 65535) (h : b ≤ a) :
    Calls Try.prog 16 #[.int .u16 a, .int .u16 b] w fun e w' => e = .returned (.tuple #[.int .u16 (a - b), .bool true]) ∧ w' = w := by
  have := hb; have := hb'; have := ha; have := ha'; have := h
  go_enter Try.func16, Try.ntmps16
  go_wp2
  go_ret2
  exact ⟨rfl, rfl⟩

set_option maxHeartbeats 400000 in
theorem sub16_no (a b : Int) (w : World) (h : a < b) :
    Calls Try.prog 16 #[.int .u16 a, .int .u16 b] w fun e w' => e = .returned (.tuple #[.int .u16 0, .bool false]) ∧ w' = w := by
  have := h
  go_enter Try.func16, Try.ntmps16
  go_wp2
  go_ret2
  exact ⟨rfl, rfl⟩

set_option maxHeartbeats 400000 in
theorem to16_yes (m : Int) (w : World) (hm : 0 ≤ m) (h : m ≤ 65535) :
    Calls Try.prog 38 #[.int .u64 m] w fun e w' => e = .returned (.tuple #[.int .u16 m, .bool true]) ∧ w' = w := by
  have := h; have := hm
  go_enter Try.func38, Try.ntmps38
  go_wp2_with (go_at_call 37; refine (great16 _).mono ?_; rintro e w' ⟨rfl, rfl⟩)
  go_ret2
  exact ⟨rfl, rfl⟩

set_option maxHeartbeats 400000 in
theorem to16_no (m : Int) (w : World) (hm : m ≤ 18446744073709551615) (h : 65535 < m) :
    Calls Try.prog 38 #[.int .u64 m] w fun e w' => e = .returned (.tuple #[.int .u16 0, .bool false]) ∧ w' = w := by
  have := h; have := hm
  go_enter Try.func38, Try.ntmps38
  go_wp2_with (go_at_call 37; refine (great16 _).mono ?_; rintro e w' ⟨rfl, rfl⟩)
  go_ret2
  exact ⟨rfl, rfl⟩

set_option maxHeartbeats 400000 in
theorem great32 (w : World) : Calls Try.prog 39 #[] w fun e w' => e = .returned (.int .u32 4294967295) ∧ w' = w := by
  go_enter Try.func39, Try.ntmps39
  go_wp2
  go_ret
  exact ⟨congrArg (fun z => Ending.returned (.int .u32 z)) (by decide), rfl⟩

set_option maxHeartbeats 400000 in
theorem add32_yes (a b : Int) (w : World) (ha : 0 ≤ a) (ha' : a ≤ 4294967295) (hb : 0 ≤ b) (hb' : b ≤ 4294967295) (h : a + b ≤ 4294967295) :
    Calls Try.prog 19 #[.int .u32 a, .int .u32 b] w fun e w' => e = .returned (.tuple #[.int .u32 (a + b), .bool true]) ∧ w' = w := by
  have := hb; have := hb'; have := ha; have := ha'; have := h
  go_enter Try.func19, Try.ntmps19
  go_wp2_with (go_at_call 39; refine (great32 _).mono ?_; rintro e w' ⟨rfl, rfl⟩)
  go_ret2
  exact ⟨rfl, rfl⟩

set_option maxHeartbeats 400000 in
theorem add32_no (a b : Int) (w : World) (ha : 0 ≤ a) (ha' : a ≤ 4294967295) (hb : 0 ≤ b) (hb' : b ≤ 4294967295) (h : 4294967295 < a + b) :
    Calls Try.prog 19 #[.int .u32 a, .int .u32 b] w fun e w' => e = .returned (.tuple #[.int .u32 0, .bool false]) ∧ w' = w := by
  have := hb; have := hb'; have := ha; have := ha'; have := h
  go_enter Try.func19, Try.ntmps19
  go_wp2_with (go_at_call 39; refine (great32 _).mono ?_; rintro e w' ⟨rfl, rfl⟩)
  go_ret2
  exact ⟨rfl, rfl⟩

set_option maxHeartbeats 400000 in
theorem sub32_yes (a b : Int) (w : World) (ha : 0 ≤ a) (ha' : a ≤ 4294967295) (hb : 0 ≤ b) (hb' : b ≤ 4294967295) (h : b ≤ a) :
    Calls Try.prog 20 #[.int .u32 a, .int .u32 b] w fun e w' => e = .returned (.tuple #[.int .u32 (a - b), .bool true]) ∧ w' = w := by
  have := hb; have := hb'; have := ha; have := ha'; have := h
  go_enter Try.func20, Try.ntmps20
  go_wp2
  go_ret2
  exact ⟨rfl, rfl⟩

set_option maxHeartbeats 400000 in
theorem sub32_no (a b : Int) (w : World) (h : a < b) :
    Calls Try.prog 20 #[.int .u32 a, .int .u32 b] w fun e w' => e = .returned (.tuple #[.int .u32 0, .bool false]) ∧ w' = w := by
  have := h
  go_enter Try.func20, Try.ntmps20
  go_wp2
  go_ret2
  exact ⟨rfl, rfl⟩

set_option maxHeartbeats 400000 in
theorem to32_yes (m : Int) (w : World) (hm : 0 ≤ m) (h : m ≤ 4294967295) :
    Calls Try.prog 40 #[.int .u64 m] w fun e w' => e = .returned (.tuple #[.int .u32 m, .bool true]) ∧ w' = w := by
  have := h; have := hm
  go_enter Try.func40, Try.ntmps40
  go_wp2_with (go_at_call 39; refine (great32 _).mono ?_; rintro e w' ⟨rfl, rfl⟩)
  go_ret2
  exact ⟨rfl, rfl⟩

set_option maxHeartbeats 400000 in
theorem to32_no (m : Int) (w : World) (hm : m ≤ 18446744073709551615) (h : 4294967295 < m) :
    Calls Try.prog 40 #[.int .u64 m] w fun e w' => e = .returned (.tuple #[.int .u32 0, .bool false]) ∧ w' = w := by
  have := h; have := hm
  go_enter Try.func40, Try.ntmps40
  go_wp2_with (go_at_call 39; refine (great32 _).mono ?_; rintro e w' ⟨rfl, rfl⟩)
  go_ret2
  exact ⟨rfl, rfl⟩

set_option maxHeartbeats 400000 in
theorem great64 (w : World) : Calls Try.prog 41 #[] w fun e w' => e = .returned (.int .u64 18446744073709551615) ∧ w' = w := by
  go_enter Try.func41, Try.ntmps41
  go_wp2
  go_ret
  exact ⟨congrArg (fun z => Ending.returned (.int .u64 z)) (by decide), rfl⟩

set_option maxHeartbeats 400000 in
theorem add64_yes (a b : Int) (w : World) (ha : 0 ≤ a) (ha' : a ≤ 18446744073709551615) (hb : 0 ≤ b) (hb' : b ≤ 18446744073709551615) (h : a + b ≤ 18446744073709551615) :
    Calls Try.prog 23 #[.int .u64 a, .int .u64 b] w fun e w' => e = .returned (.tuple #[.int .u64 (a + b), .bool true]) ∧ w' = w := by
  have := hb; have := hb'; have := ha; have := ha'; have := h
  go_enter Try.func23, Try.ntmps23
  go_wp2_with (go_at_call 41; refine (great64 _).mono ?_; rintro e w' ⟨rfl, rfl⟩)
  go_ret2
  exact ⟨rfl, rfl⟩

set_option maxHeartbeats 400000 in
theorem add64_no (a b : Int) (w : World) (ha : 0 ≤ a) (ha' : a ≤ 18446744073709551615) (hb : 0 ≤ b) (hb' : b ≤ 18446744073709551615) (h : 18446744073709551615 < a + b) :
    Calls Try.prog 23 #[.int .u64 a, .int .u64 b] w fun e w' => e = .returned (.tuple #[.int .u64 0, .bool false]) ∧ w' = w := by
  have := hb; have := hb'; have := ha; have := ha'; have := h
  go_enter Try.func23, Try.ntmps23
  go_wp2_with (go_at_call 41; refine (great64 _).mono ?_; rintro e w' ⟨rfl, rfl⟩)
  go_ret2
  exact ⟨rfl, rfl⟩

set_option maxHeartbeats 400000 in
theorem sub64_yes (a b : Int) (w : World) (ha : 0 ≤ a) (ha' : a ≤ 18446744073709551615) (hb : 0 ≤ b) (hb' : b ≤ 18446744073709551615) (h : b ≤ a) :
    Calls Try.prog 24 #[.int .u64 a, .int .u64 b] w fun e w' => e = .returned (.tuple #[.int .u64 (a - b), .bool true]) ∧ w' = w := by
  have := hb; have := hb'; have := ha; have := ha'; have := h
  go_enter Try.func24, Try.ntmps24
  go_wp2
  go_ret2
  exact ⟨rfl, rfl⟩

set_option maxHeartbeats 400000 in
theorem sub64_no (a b : Int) (w : World) (h : a < b) :
    Calls Try.prog 24 #[.int .u64 a, .int .u64 b] w fun e w' => e = .returned (.tuple #[.int .u64 0, .bool false]) ∧ w' = w := by
  have := h
  go_enter Try.func24, Try.ntmps24
  go_wp2
  go_ret2
  exact ⟨rfl, rfl⟩

set_option maxHeartbeats 400000 in
theorem to64_yes (m : Int) (w : World) (hm : 0 ≤ m) (h : m ≤ 18446744073709551615) :
    Calls Try.prog 42 #[.int .u64 m] w fun e w' => e = .returned (.tuple #[.int .u64 m, .bool true]) ∧ w' = w := by
  have := h; have := hm
  go_enter Try.func42, Try.ntmps42
  go_wp2_with (go_at_call 41; refine (great64 _).mono ?_; rintro e w' ⟨rfl, rfl⟩)
  go_ret2
  exact ⟨rfl, rfl⟩

set_option maxHeartbeats 400000 in
theorem greatT (w : World) : Calls Try.prog 43 #[] w fun e w' => e = .returned (.int .u8 255) ∧ w' = w := by
  go_enter Try.func43, Try.ntmps43
  go_wp2
  go_ret
  exact ⟨congrArg (fun z => Ending.returned (.int .u8 z)) (by decide), rfl⟩

set_option maxHeartbeats 400000 in
theorem addT_yes (a b : Int) (w : World) (ha : 0 ≤ a) (ha' : a ≤ 255) (hb : 0 ≤ b) (hb' : b ≤ 255) (h : a + b ≤ 255) :
    Calls Try.prog 27 #[.int .u8 a, .int .u8 b] w fun e w' => e = .returned (.tuple #[.int .u8 (a + b), .bool true]) ∧ w' = w := by
  have := hb; have := hb'; have := ha; have := ha'; have := h
  go_enter Try.func27, Try.ntmps27
  go_wp2_with (go_at_call 43; refine (greatT _).mono ?_; rintro e w' ⟨rfl, rfl⟩)
  go_ret2
  exact ⟨rfl, rfl⟩

set_option maxHeartbeats 400000 in
theorem addT_no (a b : Int) (w : World) (ha : 0 ≤ a) (ha' : a ≤ 255) (hb : 0 ≤ b) (hb' : b ≤ 255) (h : 255 < a + b) :
    Calls Try.prog 27 #[.int .u8 a, .int .u8 b] w fun e w' => e = .returned (.tuple #[.int .u8 0, .bool false]) ∧ w' = w := by
  have := hb; have := hb'; have := ha; have := ha'; have := h
  go_enter Try.func27, Try.ntmps27
  go_wp2_with (go_at_call 43; refine (greatT _).mono ?_; rintro e w' ⟨rfl, rfl⟩)
  go_ret2
  exact ⟨rfl, rfl⟩

set_option maxHeartbeats 400000 in
theorem subT_yes (a b : Int) (w : World) (ha : 0 ≤ a) (ha' : a ≤ 255) (hb : 0 ≤ b) (hb' : b ≤ 255) (h : b ≤ a) :
    Calls Try.prog 28 #[.int .u8 a, .int .u8 b] w fun e w' => e = .returned (.tuple #[.int .u8 (a - b), .bool true]) ∧ w' = w := by
  have := hb; have := hb'; have := ha; have := ha'; have := h
  go_enter Try.func28, Try.ntmps28
  go_wp2
  go_ret2
  exact ⟨rfl, rfl⟩

set_option maxHeartbeats 400000 in
theorem subT_no (a b : Int) (w : World) (h : a < b) :
    Calls Try.prog 28 #[.int .u8 a, .int .u8 b] w fun e w' => e = .returned (.tuple #[.int .u8 0, .bool false]) ∧ w' = w := by
  have := h
  go_enter Try.func28, Try.ntmps28
  go_wp2
  go_ret2
  exact ⟨rfl, rfl⟩

set_option maxHeartbeats 400000 in
theorem toT_yes (m : Int) (w : World) (hm : 0 ≤ m) (h : m ≤ 255) :
    Calls Try.prog 44 #[.int .u64 m] w fun e w' => e = .returned (.tuple #[.int .u8 m, .bool true]) ∧ w' = w := by
  have := h; have := hm
  go_enter Try.func44, Try.ntmps44
  go_wp2_with (go_at_call 43; refine (greatT _).mono ?_; rintro e w' ⟨rfl, rfl⟩)
  go_ret2
  exact ⟨rfl, rfl⟩

set_option maxHeartbeats 400000 in
theorem toT_no (m : Int) (w : World) (hm : m ≤ 18446744073709551615) (h : 255 < m) :
    Calls Try.prog 44 #[.int .u64 m] w fun e w' => e = .returned (.tuple #[.int .u8 0, .bool false]) ∧ w' = w := by
  have := h; have := hm
  go_enter Try.func44, Try.ntmps44
  go_wp2_with (go_at_call 43; refine (greatT _).mono ?_; rintro e w' ⟨rfl, rfl⟩)
  go_ret2
  exact ⟨rfl, rfl⟩

set_option maxHeartbeats 400000 in
theorem greatG (w : World) : Calls Try.prog 45 #[] w fun e w' => e = .returned (.int .u64 18446744073709551615) ∧ w' = w := by
  go_enter Try.func45, Try.ntmps45
  go_wp2
  go_ret
  exact ⟨congrArg (fun z => Ending.returned (.int .u64 z)) (by decide), rfl⟩

set_option maxHeartbeats 400000 in
theorem addG_yes (a b : Int) (w : World) (ha : 0 ≤ a) (ha' : a ≤ 18446744073709551615) (hb : 0 ≤ b) (hb' : b ≤ 18446744073709551615) (h : a + b ≤ 18446744073709551615) :
    Calls Try.prog 31 #[.int .u64 a, .int .u64 b] w fun e w' => e = .returned (.tuple #[.int .u64 (a + b), .bool true]) ∧ w' = w := by
  have := hb; have := hb'; have := ha; have := ha'; have := h
  go_enter Try.func31, Try.ntmps31
  go_wp2_with (go_at_call 45; refine (greatG _).mono ?_; rintro e w' ⟨rfl, rfl⟩)
  go_ret2
  exact ⟨rfl, rfl⟩

set_option maxHeartbeats 400000 in
theorem addG_no (a b : Int) (w : World) (ha : 0 ≤ a) (ha' : a ≤ 18446744073709551615) (hb : 0 ≤ b) (hb' : b ≤ 18446744073709551615) (h : 18446744073709551615 < a + b) :
    Calls Try.prog 31 #[.int .u64 a, .int .u64 b] w fun e w' => e = .returned (.tuple #[.int .u64 0, .bool false]) ∧ w' = w := by
  have := hb; have := hb'; have := ha; have := ha'; have := h
  go_enter Try.func31, Try.ntmps31
  go_wp2_with (go_at_call 45; refine (greatG _).mono ?_; rintro e w' ⟨rfl, rfl⟩)
  go_ret2
  exact ⟨rfl, rfl⟩

set_option maxHeartbeats 400000 in
theorem subG_yes (a b : Int) (w : World) (ha : 0 ≤ a) (ha' : a ≤ 18446744073709551615) (hb : 0 ≤ b) (hb' : b ≤ 18446744073709551615) (h : b ≤ a) :
    Calls Try.prog 32 #[.int .u64 a, .int .u64 b] w fun e w' => e = .returned (.tuple #[.int .u64 (a - b), .bool true]) ∧ w' = w := by
  have := hb; have := hb'; have := ha; have := ha'; have := h
  go_enter Try.func32, Try.ntmps32
  go_wp2
  go_ret2
  exact ⟨rfl, rfl⟩

set_option maxHeartbeats 400000 in
theorem subG_no (a b : Int) (w : World) (h : a < b) :
    Calls Try.prog 32 #[.int .u64 a, .int .u64 b] w fun e w' => e = .returned (.tuple #[.int .u64 0, .bool false]) ∧ w' = w := by
  have := h
  go_enter Try.func32, Try.ntmps32
  go_wp2
  go_ret2
  exact ⟨rfl, rfl⟩

set_option maxHeartbeats 400000 in
theorem toG_yes (m : Int) (w : World) (hm : 0 ≤ m) (h : m ≤ 18446744073709551615) :
    Calls Try.prog 46 #[.int .u64 m] w fun e w' => e = .returned (.tuple #[.int .u64 m, .bool true]) ∧ w' = w := by
  have := h; have := hm
  go_enter Try.func46, Try.ntmps46
  go_wp2_with (go_at_call 45; refine (greatG _).mono ?_; rintro e w' ⟨rfl, rfl⟩)
  go_ret2
  exact ⟨rfl, rfl⟩

end Go.Proofs.Ytphlfkkbkkocmab
