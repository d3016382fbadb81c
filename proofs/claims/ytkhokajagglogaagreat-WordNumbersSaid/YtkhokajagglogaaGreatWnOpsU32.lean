/- WordNumbers: sums of one type. Own work. -/
import Derived.Test.YtkhokajagglogaaGreatWnMul
namespace Go.Proofs.YtkhokajagglogaaGreat.U32
open Go.RowKit
set_option maxHeartbeats 400000 in
theorem greatest_any (w : World) : Calls Tryz.prog 138 #[] w fun e w' => e = .returned (.int .u32 4294967295) ∧ w' = w := by
  go_enter Tryz.func138, Tryz.ntmps138
  go_wp2
  go_ret
  exact ⟨congrArg (fun z => Ending.returned (.int .u32 z)) (by decide), rfl⟩
set_option maxHeartbeats 1000000 in
theorem add_any {a b : Nat} (ha : a ≤ 4294967295) (hb : b ≤ 4294967295) (w : World) : Calls Tryz.prog 102 #[.int .u32 (a : Int), .int .u32 (b : Int)] w fun e w' => e = .returned (.tuple #[.int .u32 ((addN 4294967295 a b).1 : Nat), .bool (addN 4294967295 a b).2]) ∧ w' = w := by
  by_cases h : a + b ≤ 4294967295
  · have HE : Hid (addN 4294967295 a b = (a + b, true)) := if_pos h
    have hd : ¬ ((4294967295 : Int) - (a : Int) < (b : Int)) := by omega
    go_enter Tryz.func102, Tryz.ntmps102
    go_wp2_with (go_at_call 138; refine (greatest_any _).mono ?_; rintro e w' ⟨rfl, rfl⟩)
    go_ret2
    exact ⟨by rw [HE.out]; rfl, rfl⟩
  · have HE : Hid (addN 4294967295 a b = (0, false)) := if_neg h
    have hd : ((4294967295 : Int) - (a : Int) < (b : Int)) := by omega
    go_enter Tryz.func102, Tryz.ntmps102
    go_wp2_with (go_at_call 138; refine (greatest_any _).mono ?_; rintro e w' ⟨rfl, rfl⟩)
    go_ret2
    exact ⟨by rw [HE.out]; rfl, rfl⟩
set_option maxHeartbeats 1000000 in
theorem sub_any {a b : Nat} (ha : a ≤ 4294967295) (hb : b ≤ 4294967295) (w : World) : Calls Tryz.prog 103 #[.int .u32 (a : Int), .int .u32 (b : Int)] w fun e w' => e = .returned (.tuple #[.int .u32 ((subN a b).1 : Nat), .bool (subN a b).2]) ∧ w' = w := by
  by_cases h : b ≤ a
  · have HE : Hid (subN a b = (a - b, true)) := if_pos h
    go_enter Tryz.func103, Tryz.ntmps103
    go_wp2
    go_ret2
    exact ⟨by rw [HE.out]; show _ = Ending.returned (.tuple #[.int .u32 ((a - b : Nat) : Int), _]); rw [Int.ofNat_sub h]; rfl, rfl⟩
  · have HE : Hid (subN a b = (0, false)) := if_neg h
    go_enter Tryz.func103, Tryz.ntmps103
    go_wp2
    go_ret2
    exact ⟨by rw [HE.out]; rfl, rfl⟩
set_option maxHeartbeats 1000000 in
theorem to64_any {n : Nat} (hn : n ≤ 18446744073709551615) (w : World) : Calls Tryz.prog 70 #[.int .u64 (n : Int)] w fun e w' => e = .returned (.tuple #[.int .u32 ((toN 4294967295 n).1 : Nat), .bool (toN 4294967295 n).2]) ∧ w' = w := by
  by_cases h : n ≤ 4294967295
  · have HE : Hid (toN 4294967295 n = (n, true)) := if_pos h
    go_enter Tryz.func70, Tryz.ntmps70
    go_wp2_with (go_at_call 138; refine (greatest_any _).mono ?_; rintro e w' ⟨rfl, rfl⟩)
    go_ret2
    exact ⟨by rw [HE.out]; rfl, rfl⟩
  · have HE : Hid (toN 4294967295 n = (0, false)) := if_neg h
    go_enter Tryz.func70, Tryz.ntmps70
    go_wp2_with (go_at_call 138; refine (greatest_any _).mono ?_; rintro e w' ⟨rfl, rfl⟩)
    all_goals go_ret2
    all_goals exact ⟨by rw [HE.out]; rfl, rfl⟩
set_option maxHeartbeats 1000000 in
theorem mul_any {a b : Nat} (ha : a ≤ 4294967295) (hb : b ≤ 4294967295) (w : World) : Calls Tryz.prog 104 #[.int .u32 (a : Int), .int .u32 (b : Int)] w fun e w' => e = .returned (.tuple #[.int .u32 ((mulN 4294967295 a b).1 : Nat), .bool (mulN 4294967295 a b).2]) ∧ w' = w := by
  have HM := Lib.hid (mul64_any (x := a) (y := b) (by omega) (by omega) w)
  have HE : Hid (if a * b ≤ 18446744073709551615 then mulN 4294967295 a b = toN 4294967295 (a * b) else mulN 4294967295 a b = (0, false)) := by
    show if a * b ≤ 18446744073709551615 then mulN 4294967295 a b = toN 4294967295 (a * b) else mulN 4294967295 a b = (0, false)
    split
    · rfl
    · exact if_neg (by omega)
  go_enter Tryz.func104, Tryz.ntmps104
  go_wp2_with fail
  refine HM.out.mono ?_
  rintro e w' ⟨h, l, rfl, hif, hl, hw⟩
  have hw := hw.symm
  subst hw
  by_cases hc : a * b ≤ 18446744073709551615
  · rw [if_pos hc] at hif
    have HE2 := HE.out
    rw [if_pos hc] at HE2
    obtain ⟨rfl, hl2⟩ := hif
    rw [← hl2] at HE2
    have HE3 : Hid (mulN 4294967295 a b = toN 4294967295 l) := HE2
    have HT := Lib.hid (to64_any hl w)
    clear HE2 HE hl2 hc HM
    go_wp2_with fail
    refine HT.out.mono ?_
    rintro e w' ⟨rfl, hw⟩
    have hw := hw.symm
    subst hw
    go_wp2_with fail
    go_ret2
    exact ⟨by rw [HE3.out]; rfl, rfl⟩
  · rw [if_neg hc] at hif
    have HE2 := HE.out
    rw [if_neg hc] at HE2
    have HE3 : Hid (mulN 4294967295 a b = (0, false)) := HE2
    have hne : (h : Int) ≠ 0 := by omega
    clear HE2 HE hc HM
    go_wp2_with fail
    go_ret2
    exact ⟨by rw [HE3.out]; rfl, rfl⟩
set_option maxHeartbeats 1000000 in
theorem up_any {a b : Nat} (ha : a ≤ 4294967295) (hb : b ≤ 4294967295) (w : World) : Calls Tryz.prog 105 #[.int .u32 (a : Int), .int .u32 (b : Int)] w fun e w' => e = .returned (.tuple #[.int .u32 ((upN 4294967295 a b).1 : Nat), .bool (upN 4294967295 a b).2]) ∧ w' = w := by
  by_cases h0 : b = 0
  · subst h0
    have HE : Hid (upN 4294967295 a 0 = (0, false)) := if_pos rfl
    go_enter Tryz.func105, Tryz.ntmps105
    go_wp2_with fail
    go_ret2
    exact ⟨by rw [HE.out]; rfl, rfl⟩
  · have hne : (b : Int) ≠ 0 := by omega
    have hml : a % b < b := Nat.mod_lt a (by omega)
    have hwm' : (a : Int) % (b : Int) = ((a % b : Nat) : Int) := (Int.natCast_emod a b).symm
    have e0 : upN 4294967295 a b = if a % b = 0 then (a, true) else addN 4294967295 a (b - a % b) := if_neg h0
    by_cases h : a % b = 0
    · rw [if_pos h] at e0
      have HE : Hid (upN 4294967295 a b = (a, true)) := e0
      rw [h] at hwm'
      clear e0 hml
      go_enter Tryz.func105, Tryz.ntmps105
      go_wp2_with fail
      go_ret2
      exact ⟨by rw [HE.out]; rfl, rfl⟩
    · rw [if_neg h] at e0
      have HE : Hid (upN 4294967295 a b = addN 4294967295 a (b - a % b)) := e0
      have HA := Lib.hid (add_any (a := a) (b := b - a % b) ha (by omega) w)
      have hcast : ((b - a % b : Nat) : Int) = (b : Int) - ((a % b : Nat) : Int) := Int.ofNat_sub (by omega)
      have HC : Hid (((b - a % b : Nat) : Int) = (b : Int) - ((a % b : Nat) : Int)) := hcast
      clear e0 hcast
      generalize b - a % b = d at *
      generalize addN 4294967295 a d = r at *
      generalize upN 4294967295 a b = r2 at *
      generalize a % b = m at *
      go_enter Tryz.func105, Tryz.ntmps105
      go_wp2_with fail
      rw [← HC.out]
      refine HA.out.mono ?_
      rintro e w' ⟨rfl, hw⟩
      have hw := hw.symm
      subst hw
      go_wp2_with fail
      go_ret2
      exact ⟨by rw [HE.out]; rfl, rfl⟩
theorem gM : gN 4 = 4294967295 := by decide
set_option maxRecDepth 100000 in
set_option maxHeartbeats 4000000 in
theorem sums_any {a b : Nat} (ha : a ≤ 4294967295) (hb : b ≤ 4294967295) (w : World) : Calls Tryz.prog 36 #[.int .i64 4, .int .u32 (a : Int), .int .u32 (b : Int)] w fun e w' => e = .returned (.bool true) ∧ w' = w := by
  have HA := Lib.hid (add_any ha hb w)
  have HS := Lib.hid (sub_any ha hb w)
  have HM := Lib.hid (mul_any ha hb w)
  have HU := Lib.hid (up_any ha hb w)
  have hA := rAdd_any (s := 4) (a := a) (b := b) (by decide) (by rw [gM]; exact ha) (by rw [gM]; exact hb) w
  have hS := rSub_any (s := 4) (a := a) (b := b) (by omega) w
  have hM := rMul_any (s := 4) (a := a) (b := b) (by decide) w
  have hU := rUp_any (s := 4) (a := a) (b := b) (by decide) (by rw [gM]; exact ha) (by omega) w
  rw [gM] at hA hM hU
  have RA := Lib.hid hA
  have RS := Lib.hid hS
  have RM := Lib.hid hM
  have RU := Lib.hid hU
  have l1 := addN_le 4294967295 a b
  have l2 := subN_le (b := b) ha
  have l3 := mulN_le 4294967295 a b
  have l4 := upN_le (b := b) ha
  clear hA hS hM hU
  generalize addN 4294967295 a b = p1 at *
  generalize subN a b = p2 at *
  generalize mulN 4294967295 a b = p3 at *
  generalize upN 4294967295 a b = p4 at *
  obtain ⟨r1, t1⟩ := p1
  obtain ⟨r2, t2⟩ := p2
  obtain ⟨r3, t3⟩ := p3
  obtain ⟨r4, t4⟩ := p4
  simp only at l1 l2 l3 l4
  go_enter Tryz.func36, Tryz.ntmps36
  go_wp2_with fail
  refine HA.out.mono ?_
  rintro e w' ⟨rfl, hw⟩
  have hw := hw.symm
  subst hw
  go_wp2_with fail
  refine RA.out.mono ?_
  rintro e w' ⟨rfl, hw⟩
  have hw := hw.symm
  subst hw
  go_wp2_with fail
  refine HS.out.mono ?_
  rintro e w' ⟨rfl, hw⟩
  have hw := hw.symm
  subst hw
  go_wp2_with fail
  refine RS.out.mono ?_
  rintro e w' ⟨rfl, hw⟩
  have hw := hw.symm
  subst hw
  go_wp2_with fail
  refine HM.out.mono ?_
  rintro e w' ⟨rfl, hw⟩
  have hw := hw.symm
  subst hw
  go_wp2_with fail
  refine RM.out.mono ?_
  rintro e w' ⟨rfl, hw⟩
  have hw := hw.symm
  subst hw
  go_wp2_with fail
  refine HU.out.mono ?_
  rintro e w' ⟨rfl, hw⟩
  have hw := hw.symm
  subst hw
  go_wp2_with fail
  refine RU.out.mono ?_
  rintro e w' ⟨rfl, hw⟩
  have hw := hw.symm
  subst hw
  go_wp2_with fail
  go_ret
  exact ⟨rfl, rfl⟩
end Go.Proofs.YtkhokajagglogaaGreat.U32
