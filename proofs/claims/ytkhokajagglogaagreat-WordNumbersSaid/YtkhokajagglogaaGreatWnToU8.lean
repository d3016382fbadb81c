/- WordNumbers: To of one type (written by parts/gen_wnto.py). Own work. -/
import Derived.Test.YtkhokajagglogaaGreatWnOpsU8
import Derived.Test.YtkhokajagglogaaGreatWnOpsU16
import Derived.Test.YtkhokajagglogaaGreatWnOpsU32
import Derived.Test.YtkhokajagglogaaGreatWnOpsU64
import Derived.Test.YtkhokajagglogaaGreatWnOpsSm
namespace Go.Proofs.YtkhokajagglogaaGreat.U8
open Go.RowKit
set_option maxHeartbeats 1000000 in
theorem toU8 {n : Nat} (hn : n ≤ 255) (w : World) : Calls Tryz.prog 52 #[.int .u8 (n : Int)] w fun e w' => e = .returned (.tuple #[.int .u8 ((toN 255 n).1 : Nat), .bool (toN 255 n).2]) ∧ w' = w := by
  by_cases h : n ≤ 255
  · have HE : Hid (toN 255 n = (n, true)) := if_pos h
    go_enter Tryz.func52, Tryz.ntmps52
    go_wp2_with (go_at_call 136; refine (Go.Proofs.YtkhokajagglogaaGreat.U8.greatest_any _).mono ?_; rintro e w' ⟨rfl, rfl⟩)
    all_goals go_ret2
    all_goals exact ⟨by rw [HE.out]; rfl, rfl⟩
  · have HE : Hid (toN 255 n = (0, false)) := if_neg h
    go_enter Tryz.func52, Tryz.ntmps52
    go_wp2_with (go_at_call 136; refine (Go.Proofs.YtkhokajagglogaaGreat.U8.greatest_any _).mono ?_; rintro e w' ⟨rfl, rfl⟩)
    all_goals go_ret2
    all_goals exact ⟨by rw [HE.out]; rfl, rfl⟩
set_option maxHeartbeats 1000000 in
theorem toU16 {n : Nat} (hn : n ≤ 255) (w : World) : Calls Tryz.prog 54 #[.int .u8 (n : Int)] w fun e w' => e = .returned (.tuple #[.int .u16 ((toN 65535 n).1 : Nat), .bool (toN 65535 n).2]) ∧ w' = w := by
  by_cases h : n ≤ 65535
  · have HE : Hid (toN 65535 n = (n, true)) := if_pos h
    go_enter Tryz.func54, Tryz.ntmps54
    go_wp2_with (go_at_call 137; refine (Go.Proofs.YtkhokajagglogaaGreat.U16.greatest_any _).mono ?_; rintro e w' ⟨rfl, rfl⟩)
    all_goals go_ret2
    all_goals exact ⟨by rw [HE.out]; rfl, rfl⟩
  · have HE : Hid (toN 65535 n = (0, false)) := if_neg h
    go_enter Tryz.func54, Tryz.ntmps54
    go_wp2_with (go_at_call 137; refine (Go.Proofs.YtkhokajagglogaaGreat.U16.greatest_any _).mono ?_; rintro e w' ⟨rfl, rfl⟩)
    all_goals go_ret2
    all_goals exact ⟨by rw [HE.out]; rfl, rfl⟩
set_option maxHeartbeats 1000000 in
theorem toU32 {n : Nat} (hn : n ≤ 255) (w : World) : Calls Tryz.prog 55 #[.int .u8 (n : Int)] w fun e w' => e = .returned (.tuple #[.int .u32 ((toN 4294967295 n).1 : Nat), .bool (toN 4294967295 n).2]) ∧ w' = w := by
  by_cases h : n ≤ 4294967295
  · have HE : Hid (toN 4294967295 n = (n, true)) := if_pos h
    go_enter Tryz.func55, Tryz.ntmps55
    go_wp2_with (go_at_call 138; refine (Go.Proofs.YtkhokajagglogaaGreat.U32.greatest_any _).mono ?_; rintro e w' ⟨rfl, rfl⟩)
    all_goals go_ret2
    all_goals exact ⟨by rw [HE.out]; rfl, rfl⟩
  · have HE : Hid (toN 4294967295 n = (0, false)) := if_neg h
    go_enter Tryz.func55, Tryz.ntmps55
    go_wp2_with (go_at_call 138; refine (Go.Proofs.YtkhokajagglogaaGreat.U32.greatest_any _).mono ?_; rintro e w' ⟨rfl, rfl⟩)
    all_goals go_ret2
    all_goals exact ⟨by rw [HE.out]; rfl, rfl⟩
set_option maxHeartbeats 1000000 in
theorem toU64 {n : Nat} (hn : n ≤ 255) (w : World) : Calls Tryz.prog 56 #[.int .u8 (n : Int)] w fun e w' => e = .returned (.tuple #[.int .u64 ((toN 18446744073709551615 n).1 : Nat), .bool (toN 18446744073709551615 n).2]) ∧ w' = w := by
  by_cases h : n ≤ 18446744073709551615
  · have HE : Hid (toN 18446744073709551615 n = (n, true)) := if_pos h
    go_enter Tryz.func56, Tryz.ntmps56
    go_wp2_with (go_at_call 139; refine (Go.Proofs.YtkhokajagglogaaGreat.U64.greatest_any _).mono ?_; rintro e w' ⟨rfl, rfl⟩)
    all_goals go_ret2
    all_goals exact ⟨by rw [HE.out]; rfl, rfl⟩
  · have HE : Hid (toN 18446744073709551615 n = (0, false)) := if_neg h
    go_enter Tryz.func56, Tryz.ntmps56
    go_wp2_with (go_at_call 139; refine (Go.Proofs.YtkhokajagglogaaGreat.U64.greatest_any _).mono ?_; rintro e w' ⟨rfl, rfl⟩)
    all_goals go_ret2
    all_goals exact ⟨by rw [HE.out]; rfl, rfl⟩
set_option maxHeartbeats 1000000 in
theorem toSm {n : Nat} (hn : n ≤ 255) (w : World) : Calls Tryz.prog 57 #[.int .u8 (n : Int)] w fun e w' => e = .returned (.tuple #[.int .u16 ((toN 65535 n).1 : Nat), .bool (toN 65535 n).2]) ∧ w' = w := by
  by_cases h : n ≤ 65535
  · have HE : Hid (toN 65535 n = (n, true)) := if_pos h
    go_enter Tryz.func57, Tryz.ntmps57
    go_wp2_with (go_at_call 140; refine (Go.Proofs.YtkhokajagglogaaGreat.Sm.greatest_any _).mono ?_; rintro e w' ⟨rfl, rfl⟩)
    all_goals go_ret2
    all_goals exact ⟨by rw [HE.out]; rfl, rfl⟩
  · have HE : Hid (toN 65535 n = (0, false)) := if_neg h
    go_enter Tryz.func57, Tryz.ntmps57
    go_wp2_with (go_at_call 140; refine (Go.Proofs.YtkhokajagglogaaGreat.Sm.greatest_any _).mono ?_; rintro e w' ⟨rfl, rfl⟩)
    all_goals go_ret2
    all_goals exact ⟨by rw [HE.out]; rfl, rfl⟩
set_option maxRecDepth 100000 in
set_option maxHeartbeats 4000000 in
theorem to_any {n : Nat} (hn : n ≤ 255) (w : World) : Calls Tryz.prog 13 #[.int .u8 (n : Int)] w fun e w' => e = .returned (.bool true) ∧ w' = w := by
  have H1 := Lib.hid (toU8 hn w)
  have H2 := Lib.hid (toU16 hn w)
  have H3 := Lib.hid (toU32 hn w)
  have H4 := Lib.hid (toU64 hn w)
  have H5 := Lib.hid (toSm hn w)
  have r1 := rTo_any (s := 1) (n := n) (by decide) w
  have r2 := rTo_any (s := 2) (n := n) (by decide) w
  have r3 := rTo_any (s := 4) (n := n) (by decide) w
  rw [show gN 1 = 255 from by decide] at r1
  rw [show gN 2 = 65535 from by decide] at r2
  rw [show gN 4 = 4294967295 from by decide] at r3
  have R1 := Lib.hid r1
  have R2 := Lib.hid r2
  have R3 := Lib.hid r3
  have l1 := toN_le 255 n
  have l2 := toN_le 65535 n
  have l3 := toN_le 4294967295 n
  have e4 : toN 18446744073709551615 n = (n, true) := if_pos (by omega)
  rw [e4] at H4
  clear r1 r2 r3 e4
  generalize toN 255 n = p1 at *
  generalize toN 65535 n = p2 at *
  generalize toN 4294967295 n = p3 at *
  obtain ⟨a1, t1⟩ := p1
  obtain ⟨a2, t2⟩ := p2
  obtain ⟨a3, t3⟩ := p3
  simp only at l1 l2 l3
  go_enter Tryz.func13, Tryz.ntmps13
  go_wp2_with fail
  refine H1.out.mono ?_
  rintro e w' ⟨rfl, hw⟩
  have hw := hw.symm
  subst hw
  go_wp2_with fail
  refine R1.out.mono ?_
  rintro e w' ⟨rfl, hw⟩
  have hw := hw.symm
  subst hw
  go_wp2_with fail
  refine H2.out.mono ?_
  rintro e w' ⟨rfl, hw⟩
  have hw := hw.symm
  subst hw
  go_wp2_with fail
  refine R2.out.mono ?_
  rintro e w' ⟨rfl, hw⟩
  have hw := hw.symm
  subst hw
  go_wp2_with fail
  refine H3.out.mono ?_
  rintro e w' ⟨rfl, hw⟩
  have hw := hw.symm
  subst hw
  go_wp2_with fail
  refine R3.out.mono ?_
  rintro e w' ⟨rfl, hw⟩
  have hw := hw.symm
  subst hw
  go_wp2_with fail
  refine H4.out.mono ?_
  rintro e w' ⟨rfl, hw⟩
  have hw := hw.symm
  subst hw
  go_wp2_with fail
  refine H5.out.mono ?_
  rintro e w' ⟨rfl, hw⟩
  have hw := hw.symm
  subst hw
  go_wp2_with fail
  refine R2.out.mono ?_
  rintro e w' ⟨rfl, hw⟩
  have hw := hw.symm
  subst hw
  go_wp2_with fail
  go_ret
  exact ⟨rfl, rfl⟩
end Go.Proofs.YtkhokajagglogaaGreat.U8
