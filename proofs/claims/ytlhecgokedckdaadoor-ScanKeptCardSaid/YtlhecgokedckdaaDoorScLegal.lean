/- Scan: Legal. -/
import Derived.Test.YtlhecgokedckdaaDoorScRes
import Derived.Test.YtlhecgokedckdaaDoorScCut
namespace Go.Proofs.YtlhecgokedckdaaDoor
open Go.RowKit
theorem Sc.all_take (L : List Nat) (k : Nat) (h : k < L.length) : (L.take (k + 1)).all Sc.isW = ((L.take k).all Sc.isW && Sc.isW (L.getD k 0)) := by
  rw [List.take_succ_eq_append_getElem h, List.all_append, List.getD_eq_getElem?_getD, List.getElem?_eq_getElem h]
  simp
theorem Sc.legalF_eq (L : List Nat) (h1 : L ≠ []) (h2 : L.length ≤ 32) (h3 : Sc.cls (L.headD 0) = 5) : Sc.legalF L = (L.all Sc.isW && decide (Sc.reservedF L = 0)) := by
  unfold Sc.legalF
  have : L.isEmpty = false := by simpa using h1
  rw [this, decide_eq_true h2, decide_eq_true h3]
  simp
theorem str_some {s : ByteArray} (h : ¬ s.size = 0) : s.toList.isEmpty = false := by
  rw [ByteArray.toList_eq]
  cases e : s.data.toList with
  | nil => exact absurd (by have := congrArg List.length e; simpa using this) h
  | cons a t => rfl
set_option maxRecDepth 100000 in
set_option maxHeartbeats 1000000 in
theorem legal_any (s : ByteArray) {w : World} (ht : Tabs w) : Calls Tryd.prog 28 #[.string s] w fun e w' => e = .returned (.bool (Sc.legalF (sb s))) ∧ w' = w := by
  have HT : Hid (Tabs w) := ht
  have hl := sb_length s
  clear ht
  by_cases h0 : s.size = 0
  · have e0 : sb s = [] := List.eq_nil_of_length_eq_zero (by omega)
    rw [e0]
    obtain rfl : s = ⟨#[]⟩ := by rw [← mkS_sb s, e0]; rfl
    clear e0 hl h0
    go_enter Tryd.func28, Tryd.ntmps28
    go_wp2
    go_ret
    exact ⟨rfl, rfl⟩
  · have q0 := str_some h0
    have hnb : sb s ≠ [] := fun e => by rw [e] at hl; simp at hl; omega
    by_cases h32 : 32 < s.size
    · have e0 : Sc.legalF (sb s) = false := by unfold Sc.legalF; rw [hl, decide_eq_false (show ¬ s.size ≤ 32 by omega)]; simp
      rw [e0]
      clear e0 hnb
      go_enter Tryd.func28, Tryd.ntmps28
      go_wp2
      go_ret
      exact ⟨rfl, rfl⟩
    · have hp : 0 < s.size := by omega
      have q32 : ¬ (32 : Int) < (s.size : Int) := by omega
      have hzb : s[0].toNat < 256 := s[0].toNat_lt
      have hhd : (sb s).headD 0 = s[0].toNat := by
        rw [← sb_get s 0 hp]
        cases sb s <;> rfl
      have HCl : Hid (Calls Tryd.prog 30 #[.int .u8 (s[0].toNat : Int)] w fun e w' => e = .returned (.int .u8 (Sc.cls s[0].toNat : Nat)) ∧ w' = w) := class_any hzb HT.out
      have i0 : (0 : Int) < (s.size : Int) := by omega
      by_cases h5 : Sc.cls s[0].toNat = 5
      · have hle := Sc.legalF_eq (sb s) hnb (by omega) (by rw [hhd]; exact h5)
        have HLe : Hid (Sc.legalF (sb s) = ((sb s).all Sc.isW && decide (Sc.reservedF (sb s) = 0))) := hle
        have HL : Hid ((sb s).length = s.size) := hl
        rw [h5] at HCl
        have HRe : Hid (Calls Tryd.prog 27 #[.string s] w fun e w' => e = .returned (.int .i64 (Sc.reservedF (sb s) : Nat)) ∧ w' = w) := reserved_any s HT.out
        clear hle hl hhd h5 hnb
        go_enter Tryd.func28, Tryd.ntmps28
        go_wp2_with fail
        refine HCl.out.mono ?_
        rintro e w1 ⟨rfl, rfl⟩
        clear HCl
        go_wp2_with fail
        go_loopw [3, 19] (fun _ i wr => ∃ k : Nat, k ≤ s.size ∧ i = .int .i64 (k : Int) ∧ Hid (((sb s).take k).all Sc.isW = true) ∧ wr = w1) (fun _ i _ => s.size - (intOf i).toNat)
        case atStart => exact ⟨0, by omega, rfl, rfl, rfl⟩
        case round =>
          obtain ⟨k, hk, rfl, HA, hwr⟩ := hrel
          subst hwr
          by_cases hlt : k < s.size
          · have hzk : s[k].toNat < 256 := s[k].toNat_lt
            have hat := Sc.all_take (sb s) k (by rw [HL.out]; exact hlt)
            rw [sb_get s k hlt, HA.out] at hat
            have HAt : Hid (((sb s).take (k + 1)).all Sc.isW = (true && Sc.isW s[k].toNat)) := hat
            have HIs : Hid (Calls Tryd.prog 44 #[.int .u8 (s[k].toNat : Int)] wr fun e w' => e = .returned (.bool (Sc.isW s[k].toNat)) ∧ w' = wr) := isWord_any hzk HT.out
            have i1 : (k : Int) < (s.size : Int) := by omega
            clear hat
            go_wp2_with fail
            refine HIs.out.mono ?_
            rintro e w2 ⟨rfl, rfl⟩
            clear HIs
            cases hw : Sc.isW s[k].toNat with
            | true =>
              have HN : Hid (((sb s).take (k + 1)).all Sc.isW = true) := by
                have := HAt.out
                rw [hw] at this
                exact this
              clear hw HAt
              go_wp2_with fail
              exact ⟨⟨k + 1, by omega, by go_num, HN, trivial⟩, by simp [intOf]; omega⟩
            | false =>
              have HN : Hid (Sc.legalF (sb s) = false) := by
                have h1 := HAt.out
                rw [hw] at h1
                have h2 : (sb s).all Sc.isW = false := by
                  cases e : (sb s).all Sc.isW with
                  | false => rfl
                  | true =>
                    have : ((sb s).take (k + 1)).all Sc.isW = true := by
                      rw [List.all_eq_true] at e ⊢
                      exact fun x hx => e x (List.mem_of_mem_take hx)
                    rw [this] at h1
                    cases h1
                show _ = _
                rw [HLe.out, h2]
                rfl
              clear hw HAt
              go_wp2_with fail
              go_ret
              rw [HN.out]
              exact ⟨rfl, rfl⟩
          · obtain rfl : k = s.size := by omega
            go_wp2_with fail
            refine HRe.out.mono ?_
            rintro e w2 ⟨rfl, rfl⟩
            have hall : (sb s).all Sc.isW = true := by
              have := HA.out
              rwa [← HL.out, List.take_length] at this
            have HR : Hid (Sc.legalF (sb s) = decide (Sc.reservedF (sb s) = 0)) := by
              show _ = _
              rw [HLe.out, hall]
              simp
            clear hall
            generalize Sc.reservedF (sb s) = R at *
            go_wp2_with fail
            go_ret
            rw [HR.out]
            refine ⟨ret_bool ?_, rfl⟩
            cases R <;> simp
            omega
      · have e0 : Sc.legalF (sb s) = false := by unfold Sc.legalF; rw [hhd, decide_eq_false h5]; simp
        rw [e0]
        have q5 : ((Sc.cls s[0].toNat : Int) != 5) = true := by rw [bne_iff_ne]; omega
        clear e0 hnb hhd hl h5
        generalize Sc.cls s[0].toNat = c at *
        go_enter Tryd.func28, Tryd.ntmps28
        go_wp2_with fail
        refine HCl.out.mono ?_
        rintro e w1 ⟨rfl, rfl⟩
        go_wp2
        go_ret
        exact ⟨rfl, rfl⟩
end Go.Proofs.YtlhecgokedckdaaDoor
