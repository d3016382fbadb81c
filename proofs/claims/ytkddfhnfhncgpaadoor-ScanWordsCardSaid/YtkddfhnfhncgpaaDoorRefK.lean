/- The document's own answer to chapter 5: Begun, Legal. -/
import Derived.Test.YtkddfhnfhncgpaaDoorRefB
import Derived.Test.YtkddfhnfhncgpaaDoorScLegal
namespace Go.Proofs.YtkddfhnfhncgpaaDoor
open Go.RowKit Sc
/-- what the document's Begun answers -/
def begF (L : List Nat) : Bool := !L.isEmpty && decide (L.length ≤ 32) && !isD (L.headD 0) && L.all isW
theorem begF_legal {L : List Nat} (hz : ∀ z ∈ L, z < 256) : legalF L = (begF L && decide (reservedF L = 0)) := by
  unfold legalF begF
  cases L with
  | nil => rfl
  | cons b t =>
    have hb := hz b (by simp)
    have hd := isD_cls hb
    have hw : isW b = decide (5 ≤ cls b) := rfl
    have hc := cls_lt b
    simp only [List.headD_cons, List.all_cons, hd, hw, List.isEmpty_cons]
    by_cases h5 : cls b = 5
    · simp [h5]
    · by_cases h6 : cls b = 6
      · simp [h6]
      · have : ¬ 5 ≤ cls b := by omega
        simp [h5, this]
set_option maxRecDepth 100000 in
set_option maxHeartbeats 1000000 in
theorem begun_any (s : ByteArray) (w : World) : Calls Tryd.prog 21 #[.string s] w fun e w' => e = .returned (.bool (begF (sb s))) ∧ w = w' := by
  have hl := sb_length s
  by_cases h0 : s.size = 0
  · have e0 : begF (sb s) = false := by
      have : sb s = [] := List.eq_nil_of_length_eq_zero (by omega)
      rw [this]; rfl
    rw [e0]
    have i0 : (s.size : Int) < 1 := by omega
    clear e0 hl
    go_enter Tryd.func21, Tryd.ntmps21
    go_wp2
    go_ret
    exact ⟨rfl, rfl⟩
  · have i0 : ¬ (s.size : Int) < 1 := by omega
    by_cases h32 : 32 < s.size
    · have e0 : begF (sb s) = false := by unfold begF; rw [hl, decide_eq_false (show ¬ s.size ≤ 32 by omega)]; simp
      rw [e0]
      have i1 : (32 : Int) < (s.size : Int) := by omega
      clear e0 hl
      go_enter Tryd.func21, Tryd.ntmps21
      go_wp2
      go_ret
      exact ⟨rfl, rfl⟩
    · have i1 : ¬ (32 : Int) < (s.size : Int) := by omega
      have hp : 0 < s.size := by omega
      have ip : (0 : Int) < (s.size : Int) := by omega
      have hz : s[0].toNat < 256 := s[0].toNat_lt
      have hhd : (sb s).headD 0 = s[0].toNat := by
        have := sb_cons s 0 hp
        rw [List.drop_zero] at this
        rw [this]
        rfl
      have HDg : Hid (∀ W, Calls Tryd.prog 29 #[.int .u8 (s[0].toNat : Int)] W fun e w' => e = .returned (.bool (isD s[0].toNat)) ∧ W = w') := fun W => digit_any hz W
      have hbe : begF (sb s) = (!isD s[0].toNat && (sb s).all isW) := by
        unfold begF
        rw [hhd, hl, decide_eq_true (show s.size ≤ 32 by omega)]
        have : (sb s).isEmpty = false := by
          cases e : sb s with
          | nil => rw [e] at hl; simp at hl; omega
          | cons _ _ => rfl
        rw [this]
        simp
      cases hd : isD s[0].toNat with
      | true =>
        rw [hd] at hbe HDg
        have HE : Hid (begF (sb s) = false) := hbe
        clear hbe hhd hd hl
        go_enter Tryd.func21, Tryd.ntmps21
        go_wp2_with fail
        refine (HDg.out _).mono ?_
        rintro e w1 ⟨rfl, rfl⟩
        go_wp2_with fail
        go_ret
        rw [HE.out]
        exact ⟨rfl, rfl⟩
      | false =>
        rw [hd] at hbe HDg
        have HE : Hid (begF (sb s) = (sb s).all isW) := hbe
        have HL : Hid ((sb s).length = s.size) := hl
        clear hbe hhd hd hl
        go_enter Tryd.func21, Tryd.ntmps21
        go_wp2_with fail
        refine (HDg.out _).mono ?_
        rintro e w1 ⟨rfl, rfl⟩
        clear HDg
        go_wp2_with fail
        go_loopw [3] (fun i wr => ∃ k : Nat, k ≤ s.size ∧ i = .int .i64 (k : Int) ∧ Hid (((sb s).take k).all isW = true) ∧ wr = w) (fun i _ => s.size - (intOf i).toNat)
        case atStart => exact ⟨0, by omega, rfl, rfl, rfl⟩
        case round =>
          obtain ⟨k, hk, rfl, HA, hwr⟩ := hrel
          subst hwr
          by_cases hlt : k < s.size
          · have hzk : s[k].toNat < 256 := s[k].toNat_lt
            have hat := Sc.all_take (sb s) k (by rw [HL.out]; exact hlt)
            rw [sb_get s k hlt, HA.out] at hat
            have HAt : Hid (((sb s).take (k + 1)).all isW = (true && isW s[k].toNat)) := hat
            have HIs : Hid (Calls Tryd.prog 30 #[.int .u8 (s[k].toNat : Int)] wr fun e w' => e = .returned (.bool (isW s[k].toNat)) ∧ wr = w') := wordByte_any hzk wr
            have ik : (k : Int) < (s.size : Int) := by omega
            clear hat
            go_wp2_with fail
            refine HIs.out.mono ?_
            rintro e w2 ⟨rfl, rfl⟩
            clear HIs
            cases hw : isW s[k].toNat with
            | true =>
              have HN : Hid (((sb s).take (k + 1)).all isW = true) := by
                have := HAt.out
                rw [hw] at this
                exact this
              clear hw HAt
              go_wp2_with fail
              exact ⟨⟨k + 1, by omega, by go_num, HN, trivial⟩, by simp [intOf]; omega⟩
            | false =>
              have HN : Hid (begF (sb s) = false) := by
                have h1 := HAt.out
                rw [hw] at h1
                show _ = _
                rw [HE.out]
                cases e : (sb s).all isW with
                | false => rfl
                | true =>
                  have : ((sb s).take (k + 1)).all isW = true := by
                    rw [List.all_eq_true] at e ⊢
                    exact fun x hx => e x (List.mem_of_mem_take hx)
                  rw [this] at h1
                  cases h1
              clear hw HAt
              go_wp2_with fail
              go_ret
              rw [HN.out]
              exact ⟨rfl, rfl⟩
          · obtain rfl : k = s.size := by omega
            have HN : Hid (begF (sb s) = true) := by
              have := HA.out
              rw [← HL.out, List.take_length] at this
              show _ = _
              rw [HE.out, this]
            go_wp2_with fail
            go_ret
            rw [HN.out]
            exact ⟨rfl, rfl⟩
set_option maxRecDepth 100000 in
theorem rLegal_any (s : ByteArray) {w : World} (ht : RTabs w) : Calls Tryd.prog 7 #[.string s] w fun e w' => e = .returned (.bool (legalF (sb s))) ∧ w = w' := by
  have HBg : Hid (Calls Tryd.prog 21 #[.string s] w fun e w' => e = .returned (.bool (begF (sb s))) ∧ w = w') := begun_any s w
  have HRe : Hid (Calls Tryd.prog 11 #[.string s] w fun e w' => e = .returned (.int .i64 (reservedF (sb s) : Nat)) ∧ w' = w) := rReserved_any s ht
  have HE : Hid (legalF (sb s) = (begF (sb s) && decide (reservedF (sb s) = 0))) := begF_legal (sb_small s)
  clear ht
  go_enter Tryd.func7, Tryd.ntmps7
  go_wp2_with fail
  refine HBg.out.mono ?_
  rintro e w1 ⟨rfl, rfl⟩
  clear HBg
  cases hb : begF (sb s) with
  | true =>
    rw [hb] at HE
    clear hb
    generalize reservedF (sb s) = R at *
    go_wp2_with fail
    refine HRe.out.mono ?_
    rintro e w2 ⟨rfl, rfl⟩
    go_wp2_with fail
    go_ret
    rw [HE.out]
    refine ⟨ret_bool ?_, rfl⟩
    cases R <;> simp
    omega
  | false =>
    rw [hb] at HE
    clear hb
    go_wp2_with fail
    go_ret
    rw [HE.out]
    exact ⟨rfl, rfl⟩
end Go.Proofs.YtkddfhnfhncgpaaDoor
