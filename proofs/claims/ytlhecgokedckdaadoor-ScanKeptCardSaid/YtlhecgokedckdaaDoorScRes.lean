/- Scan: Reserved. -/
import Derived.Test.YtlhecgokedckdaaDoorScTab
namespace Go.Proofs.YtlhecgokedckdaaDoor
open Go.RowKit
theorem mkS_eq {r : List Nat} (hr : ∀ z ∈ r, z < 256) (s : ByteArray) : (mkS r = s) ↔ r = sb s := by
  constructor
  · rintro rfl; exact (sb_mkS hr).symm
  · rintro rfl; exact mkS_sb s
theorem str_eq {m s : ByteArray} (h : m = s) : (m.toList == s.toList) = true := by rw [h]; exact beq_self_eq_true _
theorem str_ne {m s : ByteArray} (h : ¬ m = s) : (m.toList == s.toList) = false := by
  refine beq_eq_false_iff_ne.2 fun e => h ?_
  rw [ByteArray.toList_eq, ByteArray.toList_eq] at e
  cases m; cases s
  congr 1
  exact Array.ext' e
theorem Sc.reserved_small : ∀ r ∈ Sc.reserved, ∀ z ∈ r, z < 256 := by decide
theorem Sc.reserved_length : Sc.reserved.length = 44 := rfl
theorem Sc.findFrom_step (w : List Nat) (k : Nat) (hk : k < 44) : Sc.findFrom w (Sc.reserved.drop k) k = if Sc.reserved.getD k [] = w then 30 + k else Sc.findFrom w (Sc.reserved.drop (k + 1)) (k + 1) := by
  rw [List.drop_eq_getElem_cons (show k < Sc.reserved.length from hk), List.getD_eq_getElem?_getD, List.getElem?_eq_getElem (show k < Sc.reserved.length from hk)]
  rfl
set_option maxRecDepth 100000 in
set_option maxHeartbeats 1000000 in
theorem reserved_any (s : ByteArray) {w : World} (ht : Tabs w) : Calls Tryd.prog 27 #[.string s] w fun e w' => e = .returned (.int .i64 (Sc.reservedF (sb s) : Nat)) ∧ w' = w := by
  have HT : Hid (Tabs w) := ht
  clear ht
  go_enter Tryd.func27, Tryd.ntmps27
  go_wp2
  go_loop [3, 4] (fun _ i => ∃ k : Nat, k ≤ 44 ∧ i = .int .i64 k ∧ Hid (Sc.findFrom (sb s) (Sc.reserved.drop k) k = Sc.reservedF (sb s))) (fun _ i => 44 - (intOf i).toNat)
  case atStart => exact ⟨0, Nat.zero_le _, rfl, rfl⟩
  case round =>
    obtain ⟨k, hk, rfl, HF⟩ := hrel
    by_cases hlt : k < 44
    · have hc := HT.out.res k hlt
      have hst := Sc.findFrom_step (sb s) k hlt
      have hsm : ∀ z ∈ Sc.reserved.getD k [], z < 256 := by
        rw [List.getD_eq_getElem?_getD, List.getElem?_eq_getElem (show k < Sc.reserved.length from hlt)]
        exact Sc.reserved_small _ (List.getElem_mem _)
      have hiff := mkS_eq hsm s
      generalize Sc.reserved.getD k [] = r at *
      have HST : Hid (Sc.findFrom (sb s) (Sc.reserved.drop k) k = if r = sb s then 30 + k else Sc.findFrom (sb s) (Sc.reserved.drop (k + 1)) (k + 1)) := hst
      have HI : Hid (mkS r = s ↔ r = sb s) := hiff
      clear hst hiff hsm
      generalize mkS r = m at *
      by_cases he : m = s
      · have hb := str_eq he
        have hr := HI.out.1 he
        have hfin : Sc.reservedF (sb s) = 30 + k := by rw [← HF.out, HST.out, if_pos hr]
        have HFin : Hid (Sc.reservedF (sb s) = 30 + k) := hfin
        clear hfin hr HI HST HF he
        go_wp2
        go_ret
        refine ⟨ret_i64 ?_, rfl⟩
        rw [HFin.out]
        omega
      · have hb := str_ne he
        have hr : ¬ r = sb s := fun e => he (HI.out.2 e)
        have hnx : Sc.findFrom (sb s) (Sc.reserved.drop (k + 1)) (k + 1) = Sc.reservedF (sb s) := by rw [← HF.out, HST.out, if_neg hr]
        have HNx : Hid (Sc.findFrom (sb s) (Sc.reserved.drop (k + 1)) (k + 1) = Sc.reservedF (sb s)) := hnx
        clear hnx hr HI HST HF he
        go_wp2
        go_round
        case rel => exact ⟨k + 1, by omega, by go_num, HNx⟩
        case measure => simp [intOf]; omega
    · obtain rfl : k = 44 := by omega
      have h0 : Sc.reservedF (sb s) = 0 := HF.out.symm
      have H0 : Hid (Sc.reservedF (sb s) = 0) := h0
      clear h0
      go_wp2
      go_ret
      exact ⟨ret_i64 (by rw [H0.out]; rfl), rfl⟩
end Go.Proofs.YtlhecgokedckdaaDoor
