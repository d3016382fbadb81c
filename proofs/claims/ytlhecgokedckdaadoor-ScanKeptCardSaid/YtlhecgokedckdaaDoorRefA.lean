/- The document's own answer to chapter 5: digit, WordByte, hex, Reserved. -/
import Derived.Test.YtlhecgokedckdaaDoorScRes
namespace Go.Proofs.YtlhecgokedckdaaDoor
open Go.RowKit Sc
def isD (b : Nat) : Bool := decide (48 ≤ b ∧ b ≤ 57)
theorem isW_eq {b : Nat} (hb : b < 256) : isW b = (isD b || (decide (97 ≤ b ∧ b ≤ 122) || (decide (65 ≤ b ∧ b ≤ 90) || decide (b = 95)))) := by
  have h : ∀ t : Fin 256, isW t.val = (isD t.val || (decide (97 ≤ t.val ∧ t.val ≤ 122) || (decide (65 ≤ t.val ∧ t.val ≤ 90) || decide (t.val = 95)))) := by decide +kernel
  exact h ⟨b, hb⟩
theorem isD_cls {b : Nat} (hb : b < 256) : isD b = decide (cls b = 6) := by
  have h : ∀ t : Fin 256, isD t.val = decide (cls t.val = 6) := by decide +kernel
  exact h ⟨b, hb⟩
set_option maxRecDepth 100000 in
theorem digit_any {b : Nat} (hb : b < 256) (w : World) : Calls Tryd.prog 36 #[.int .u8 (b : Int)] w fun e w' => e = .returned (.bool (isD b)) ∧ w = w' := by
  by_cases h1 : 48 ≤ b
  · by_cases h2 : b ≤ 57
    · rw [show isD b = true from decide_eq_true ⟨h1, h2⟩]
      go_enter Tryd.func36, Tryd.ntmps36
      go_wp2
      go_ret
      exact ⟨ret_bool (by simp; omega), rfl⟩
    · rw [show isD b = false from decide_eq_false fun h => h2 h.2]
      go_enter Tryd.func36, Tryd.ntmps36
      go_wp2
      go_ret
      exact ⟨ret_bool (by simp; omega), rfl⟩
  · rw [show isD b = false from decide_eq_false fun h => h1 h.1]
    go_enter Tryd.func36, Tryd.ntmps36
    go_wp2
    go_ret
    exact ⟨ret_bool (by simp), rfl⟩
set_option maxRecDepth 100000 in
theorem wordByte_any {b : Nat} (hb : b < 256) (w : World) : Calls Tryd.prog 39 #[.int .u8 (b : Int)] w fun e w' => e = .returned (.bool (isW b)) ∧ w = w' := by
  have HD : Hid (Calls Tryd.prog 36 #[.int .u8 (b : Int)] w fun e w' => e = .returned (.bool (isD b)) ∧ w = w') := digit_any hb w
  have he := isW_eq hb
  have hd : isD b = decide (48 ≤ b ∧ b ≤ 57) := rfl
  generalize isD b = d at *
  generalize isW b = r at *
  subst he
  go_enter Tryd.func39, Tryd.ntmps39
  go_wp2_with fail
  refine HD.out.mono ?_
  rintro e w' ⟨rfl, rfl⟩
  clear HD
  cases d with
  | true =>
    clear hd
    go_wp2
    go_ret
    exact ⟨rfl, rfl⟩
  | false =>
    clear hd
    by_cases h1 : 97 ≤ b
    · by_cases h2 : b ≤ 122
      · go_wp2
        go_ret
        exact ⟨ret_bool (by first | rfl | (simp; done) | (simp; omega) | (rw [Bool.eq_iff_iff]; simp; omega)), rfl⟩
      · go_wp2
        go_ret
        exact ⟨ret_bool (by first | rfl | (simp; done) | (simp; omega) | (rw [Bool.eq_iff_iff]; simp; omega)), rfl⟩
    · by_cases h3 : 65 ≤ b
      · by_cases h4 : b ≤ 90
        · go_wp2
          go_ret
          exact ⟨ret_bool (by first | rfl | (simp; done) | (simp; omega) | (rw [Bool.eq_iff_iff]; simp; omega)), rfl⟩
        · go_wp2
          go_ret
          exact ⟨ret_bool (by first | rfl | (simp; done) | (simp; omega) | (rw [Bool.eq_iff_iff]; simp; omega)), rfl⟩
      · go_wp2
        go_ret
        exact ⟨ret_bool (by first | rfl | (simp; done) | (simp; omega) | (rw [Bool.eq_iff_iff]; simp; omega)), rfl⟩
/-- what hex answers -/
def hexV (b : Nat) : Int := if value b < 16 then (value b : Int) else -1
set_option maxRecDepth 100000 in
theorem hex_any {b : Nat} (hb : b < 256) (w : World) : Calls Tryd.prog 51 #[.int .u8 (b : Int)] w fun e w' => e = .returned (.int .i64 (hexV b)) ∧ w = w' := by
  have HD : Hid (Calls Tryd.prog 36 #[.int .u8 (b : Int)] w fun e w' => e = .returned (.bool (isD b)) ∧ w = w') := digit_any hb w
  have hd : isD b = decide (48 ≤ b ∧ b ≤ 57) := rfl
  have he : hexV b = if 48 ≤ b ∧ b ≤ 57 then (b : Int) - 48 else if 97 ≤ b ∧ b ≤ 102 then (b : Int) - 97 + 10 else if 65 ≤ b ∧ b ≤ 70 then (b : Int) - 65 + 10 else -1 := by
    unfold hexV value
    repeat' split
    all_goals omega
  generalize isD b = d at *
  generalize hexV b = r at *
  by_cases h0 : 48 ≤ b ∧ b ≤ 57
  · rw [decide_eq_true h0] at hd
    subst hd
    rw [if_pos h0] at he
    subst he
    go_enter Tryd.func51, Tryd.ntmps51
    go_wp2_with fail
    refine HD.out.mono ?_
    rintro e w' ⟨rfl, rfl⟩
    clear HD
    go_wp2
    go_ret
    exact ⟨rfl, rfl⟩
  · rw [decide_eq_false h0] at hd
    subst hd
    rw [if_neg h0] at he
    by_cases h1 : 97 ≤ b
    · by_cases h2 : b ≤ 102
      · rw [if_pos ⟨h1, h2⟩] at he
        subst he
        go_enter Tryd.func51, Tryd.ntmps51
        go_wp2_with fail
        refine HD.out.mono ?_
        rintro e w' ⟨rfl, rfl⟩
        clear HD
        go_wp2
        go_ret
        exact ⟨rfl, rfl⟩
      · rw [if_neg (fun h => h2 h.2), if_neg (by omega)] at he
        subst he
        go_enter Tryd.func51, Tryd.ntmps51
        go_wp2_with fail
        refine HD.out.mono ?_
        rintro e w' ⟨rfl, rfl⟩
        clear HD
        go_wp2
        go_ret
        exact ⟨rfl, rfl⟩
    · rw [if_neg (fun h => h1 h.1)] at he
      by_cases h3 : 65 ≤ b
      · by_cases h4 : b ≤ 70
        · rw [if_pos ⟨h3, h4⟩] at he
          subst he
          go_enter Tryd.func51, Tryd.ntmps51
          go_wp2_with fail
          refine HD.out.mono ?_
          rintro e w' ⟨rfl, rfl⟩
          clear HD
          go_wp2
          go_ret
          exact ⟨rfl, rfl⟩
        · rw [if_neg (fun h => h4 h.2)] at he
          subst he
          go_enter Tryd.func51, Tryd.ntmps51
          go_wp2_with fail
          refine HD.out.mono ?_
          rintro e w' ⟨rfl, rfl⟩
          clear HD
          go_wp2
          go_ret
          exact ⟨rfl, rfl⟩
      · rw [if_neg (fun h => h3 h.1)] at he
        subst he
        go_enter Tryd.func51, Tryd.ntmps51
        go_wp2_with fail
        refine HD.out.mono ?_
        rintro e w' ⟨rfl, rfl⟩
        clear HD
        go_wp2
        go_ret
        exact ⟨rfl, rfl⟩
set_option maxRecDepth 100000 in
set_option maxHeartbeats 1000000 in
theorem rReserved_any (s : ByteArray) {w : World} (ht : RTabs w) : Calls Tryd.prog 40 #[.string s] w fun e w' => e = .returned (.int .i64 (Sc.reservedF (sb s) : Nat)) ∧ w' = w := by
  have HT : Hid (RTabs w) := ht
  clear ht
  go_enter Tryd.func40, Tryd.ntmps40
  go_wp2
  go_loop [3] (fun i => ∃ k : Nat, k ≤ 44 ∧ i = .int .i64 k ∧ Hid (Sc.findFrom (sb s) (Sc.reserved.drop k) k = Sc.reservedF (sb s))) (fun i => 44 - (intOf i).toNat)
  case atStart => exact ⟨0, Nat.zero_le _, rfl, rfl⟩
  case round =>
    obtain ⟨k, hk, rfl, HF⟩ := hrel
    by_cases hlt : k < 44
    · have hc := HT.out.res k hlt
      have hst := Sc.findFrom_step (sb s) k hlt
      have hsm : ∀ z ∈ Sc.reserved.getD k [], z < 256 := by
        rw [List.getD_eq_getElem?_getD, List.getElem?_eq_getElem (show k < Sc.reserved.length from hlt)]
        exact Sc.reserved_small _ (List.getElem_mem _)
      have hiff := mkS_eq hsm s
      generalize Sc.reserved.getD k [] = r at *
      have HST : Hid (Sc.findFrom (sb s) (Sc.reserved.drop k) k = if r = sb s then 30 + k else Sc.findFrom (sb s) (Sc.reserved.drop (k + 1)) (k + 1)) := hst
      have HI : Hid (mkS r = s ↔ r = sb s) := hiff
      clear hst hiff hsm
      generalize mkS r = m at *
      by_cases he : m = s
      · have hb := str_eq he
        have hr := HI.out.1 he
        have hfin : Sc.reservedF (sb s) = 30 + k := by rw [← HF.out, HST.out, if_pos hr]
        have HFin : Hid (Sc.reservedF (sb s) = 30 + k) := hfin
        clear hfin hr HI HST HF he
        go_wp2
        go_ret
        refine ⟨ret_i64 ?_, rfl⟩
        rw [HFin.out]
        omega
      · have hb := str_ne he
        have hr : ¬ r = sb s := fun e => he (HI.out.2 e)
        have hnx : Sc.findFrom (sb s) (Sc.reserved.drop (k + 1)) (k + 1) = Sc.reservedF (sb s) := by rw [← HF.out, HST.out, if_neg hr]
        have HNx : Hid (Sc.findFrom (sb s) (Sc.reserved.drop (k + 1)) (k + 1) = Sc.reservedF (sb s)) := hnx
        clear hnx hr HI HST HF he
        go_wp2
        go_round
        case rel => exact ⟨k + 1, by omega, by go_num, HNx⟩
        case measure => simp [intOf]; omega
    · obtain rfl : k = 44 := by omega
      have h0 : Sc.reservedF (sb s) = 0 := HF.out.symm
      have H0 : Hid (Sc.reservedF (sb s) = 0) := h0
      clear h0
      go_wp2
      go_ret
      exact ⟨ret_i64 (by rw [H0.out]; rfl), rfl⟩
end Go.Proofs.YtlhecgokedckdaaDoor
