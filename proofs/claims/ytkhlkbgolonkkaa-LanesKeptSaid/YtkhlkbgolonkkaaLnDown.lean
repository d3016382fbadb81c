/- Lanes: container/heap's down over the queue. Own work. -/
import Derived.Test.YtkhlkbgolonkkaaLnUp
namespace Go.Proofs.Ytkhlkbgolonkkaa
open Go.RowKit
set_option linter.unusedVariables false
/-- the child that goes ahead -/
def kidF (xs : List J4) (i n : Nat) : Nat := if 2 * i + 2 < n ∧ aheadAt xs (2 * i + 2) (2 * i + 1) = true then 2 * i + 2 else 2 * i + 1
/-- container/heap's down -/
def downF (xs : List J4) (i n : Nat) : List J4 := if h : n ≤ 2 * i + 1 then xs else if aheadAt xs (kidF xs i n) i then downF (swapT xs i (kidF xs i n)) (kidF xs i n) n else xs
termination_by n - i
decreasing_by unfold kidF; split <;> omega
set_option maxRecDepth 100000 in
set_option maxHeartbeats 1000000 in
theorem down_any {w : World} {k base : Nat} {v : Value} {xs : List J4} {i0 n : Nat} (h : Hq w k base v xs) (hb : base ≤ w.heap.size) (hn : n ≤ xs.length) (hi0 : i0 < xs.length) (hx : xs.length ≤ 268435456) :
    Calls Try.prog 44 #[HV k, .int .i64 (i0 : Int), .int .i64 (n : Int)] w fun e w' => ∃ u, e = .returned u ∧ Hq w' k base v (downF xs i0 n) ∧ Kq k v w w' := by
  have hle : ∀ W : World, W.cell? ⟨k, 0, none⟩ = some v → (method 241 88 (.pointer (some ⟨k, 0, none⟩)) "Less").run Try.prog W = .ok (82, v) W := fun W hW => q_less hW
  have hsw : ∀ W : World, W.cell? ⟨k, 0, none⟩ = some v → (method 241 88 (.pointer (some ⟨k, 0, none⟩)) "Swap").run Try.prog W = .ok (83, v) W := fun W hW => q_swap hW
  have HH := Lib.hid h
  obtain ⟨m, hm⟩ : ∃ m, xs.length = m := ⟨_, rfl⟩
  have HM := Lib.hid hm
  rw [hm] at hn hi0 hx
  clear h hm
  unfold HV
  go_enter Try.func44, Try.ntmps44
  go_wp2_with fail
  go_loopw [7] (fun iv wr => ∃ (i : Nat) (ys : List J4), iv = .int .i64 (i : Int) ∧ i < m ∧ Hid (ys.length = m ∧ downF ys i n = downF xs i0 n ∧ Hq wr k base v ys ∧ Kq k v w wr)) (fun iv _ => n - (intOf iv).toNat)
  case atStart => exact ⟨i0, xs, rfl, hi0, ⟨HM.out, rfl, HH.out, Kq.refl _ _ _⟩⟩
  case round =>
    clear HH
    obtain ⟨i, ys, rfl, hi, HS⟩ := hrel
    have x0 := HS.out.2.2.1.cell
    have HL : Hid (∀ W, Hq W k base v ys → ∀ a b : Nat, a < m → b < m → Calls Try.prog 82 #[v, .int .i64 (a : Int), .int .i64 (b : Int)] W fun e w' => e = .returned (.bool (aheadAt ys a b)) ∧ w' = W.drew.drew) := fun W hW a b ha hb2 => by
      have hl := HS.out.1
      rw [aheadAt_eq ys a b (by omega) (by omega)]
      exact qless_any hW.own (by omega) (by omega)
    have HW : Hid (∀ W, Hq W k base v ys → ∀ a b : Nat, a < m → b < m → Calls Try.prog 83 #[v, .int .i64 (a : Int), .int .i64 (b : Int)] W fun e w' => e = .returned (.tuple #[]) ∧ Hq w' k base v (swapT ys a b) ∧ (base ≤ W.heap.size → Kq k v W w')) := fun W hW a b ha hb2 => by
      have hl := HS.out.1
      refine (qswap_any (i := a) (j := b) hW.own (by omega) (by omega)).mono ?_
      rintro e w' ⟨rfl, ho, hk⟩
      rw [swapT_eq] at ho
      exact ⟨rfl, hW.to hk ho, fun h9 => hW.keptq hk⟩
    obtain ⟨p, hp⟩ : ∃ p, p = 2 * i := ⟨_, rfl⟩
    obtain ⟨a, ha⟩ : ∃ a, a = 2 * i + 1 := ⟨_, rfl⟩
    obtain ⟨b, hb2⟩ : ∃ b, b = 2 * i + 2 := ⟨_, rfl⟩
    have w1 : IntKind.i64.wrap (2 * (i : Int)) = (p : Int) := by rw [IntKind.wrap_i64]; omega
    have w2 : IntKind.i64.wrap ((p : Int) + 1) = (a : Int) := by rw [IntKind.wrap_i64]; omega
    have w3 : IntKind.i64.wrap ((a : Int) + 1) = (b : Int) := by rw [IntKind.wrap_i64]; omega
    have a0 : ¬ (a : Int) < 0 := by omega
    have hia : i < a := by omega
    have hib : i < b := by omega
    have HZ : Hid (n ≤ a → downF ys i n = ys) := fun h9 => by rw [downF, dif_pos (by omega)]
    have HD : Hid (¬ n ≤ a → downF ys i n = if aheadAt ys (kidF ys i n) i then downF (swapT ys i (kidF ys i n)) (kidF ys i n) n else ys) := fun h9 => by rw [downF, dif_neg (by omega)]
    have HKb : Hid (b < n → aheadAt ys b a = true → kidF ys i n = b) := fun h8 h9 => by rw [kidF, ← ha, ← hb2, if_pos ⟨h8, h9⟩]
    have HKa : Hid (¬ (b < n ∧ aheadAt ys b a = true) → kidF ys i n = a) := fun h9 => by rw [kidF, ← ha, ← hb2, if_neg h9]
    clear hp ha hb2
    by_cases hna : n ≤ a
    · have a1 : (n : Int) ≤ (a : Int) := by omega
      have HU : Hid (downF ys i n = ys) := HZ.out hna
      clear HL HW HD HKa HKb HZ
      go_wp2_with fail
      go_ret
      obtain ⟨hl, h2, h3, h4⟩ := HS.out
      have h5 := HU.out
      rw [h5] at h2
      rw [← h2]
      exact ⟨⟨_, rfl⟩, h3, h4⟩
    · have a1 : ¬ (n : Int) ≤ (a : Int) := by omega
      have HQ := Lib.hid HS.out.2.2.1
      by_cases hnb : b < n
      · have b1 : (b : Int) < (n : Int) := by omega
        have HLf := Lib.hid (HL.out wr HQ.out b a (by omega) (by omega))
        cases hab : aheadAt ys b a with
        | true =>
          have HK : Hid (kidF ys i n = b) := HKb.out hnb hab
          rw [hab] at HLf
          clear hab
          go_wp2_with fail
          refine HLf.out.mono ?_
          rintro e w9 ⟨rfl, hw9⟩
          subst hw9
          clear HLf
          cases hah : aheadAt ys b i with
          | true =>
            have HU := Lib.hid (show downF ys i n = downF (swapT ys i b) b n by rw [HD.out hna, HK.out, if_pos hah])
            have HLe := Lib.hid (HL.out wr.drew.drew HQ.out.drew.drew b i (by omega) (by omega))
            rw [hah] at HLe
            have HSw := Lib.hid (HW.out wr.drew.drew.drew.drew (HQ.out.drew.drew).drew.drew i b (by omega) (by omega))
            clear HL HW hah
            go_wp2_with fail
            refine HLe.out.mono ?_
            rintro e w2 ⟨rfl, hw2⟩
            subst hw2
            clear HLe
            go_wp2_with fail
            refine HSw.out.mono ?_
            rintro e w3 ⟨rfl, ho, hbl⟩
            have HR : Hid ((swapT ys i b).length = m ∧ downF (swapT ys i b) b n = downF xs i0 n ∧ Hq w3 k base v (swapT ys i b) ∧ Kq k v w w3) := by
              obtain ⟨hl, h2, h3, h4⟩ := HS.out
              exact ⟨by rw [swapT_length]; exact hl, by rw [← h2, HU.out], ho, h4.drew.drew.drew.drew.trans (hbl (Nat.le_trans hb h4.size))⟩
            clear HSw ho hbl HS
            go_wp2_with fail
            go_roundw
            case rel => exact ⟨b, _, rfl, by omega, HR⟩
            case measure => simp [intOf]; omega
          | false =>
            have HU := Lib.hid (show downF ys i n = ys by rw [HD.out hna, HK.out, hah, if_neg (by decide)])
            have HLe := Lib.hid (HL.out wr.drew.drew HQ.out.drew.drew b i (by omega) (by omega))
            rw [hah] at HLe
            clear HL HW hah
            go_wp2_with fail
            refine HLe.out.mono ?_
            rintro e w2 ⟨rfl, hw2⟩
            subst hw2
            clear HLe
            go_wp2_with fail
            go_ret
            obtain ⟨hl, h2, h3, h4⟩ := HS.out
            first
            | exact ⟨by rw [← h2, HU.out]; exact h3.drew.drew.drew.drew, h4.drew.drew.drew.drew⟩
            | exact ⟨_, rfl, by rw [← h2, HU.out]; exact h3.drew.drew.drew.drew, h4.drew.drew.drew.drew⟩
        | false =>
          have HK : Hid (kidF ys i n = a) := HKa.out (by rw [hab]; simp)
          rw [hab] at HLf
          clear hab
          go_wp2_with fail
          refine HLf.out.mono ?_
          rintro e w9 ⟨rfl, hw9⟩
          subst hw9
          clear HLf
          cases hah : aheadAt ys a i with
          | true =>
            have HU := Lib.hid (show downF ys i n = downF (swapT ys i a) a n by rw [HD.out hna, HK.out, if_pos hah])
            have HLe := Lib.hid (HL.out wr.drew.drew HQ.out.drew.drew a i (by omega) (by omega))
            rw [hah] at HLe
            have HSw := Lib.hid (HW.out wr.drew.drew.drew.drew (HQ.out.drew.drew).drew.drew i a (by omega) (by omega))
            clear HL HW hah
            go_wp2_with fail
            refine HLe.out.mono ?_
            rintro e w2 ⟨rfl, hw2⟩
            subst hw2
            clear HLe
            go_wp2_with fail
            refine HSw.out.mono ?_
            rintro e w3 ⟨rfl, ho, hbl⟩
            have HR : Hid ((swapT ys i a).length = m ∧ downF (swapT ys i a) a n = downF xs i0 n ∧ Hq w3 k base v (swapT ys i a) ∧ Kq k v w w3) := by
              obtain ⟨hl, h2, h3, h4⟩ := HS.out
              exact ⟨by rw [swapT_length]; exact hl, by rw [← h2, HU.out], ho, h4.drew.drew.drew.drew.trans (hbl (Nat.le_trans hb h4.size))⟩
            clear HSw ho hbl HS
            go_wp2_with fail
            go_roundw
            case rel => exact ⟨a, _, rfl, by omega, HR⟩
            case measure => simp [intOf]; omega
          | false =>
            have HU := Lib.hid (show downF ys i n = ys by rw [HD.out hna, HK.out, hah, if_neg (by decide)])
            have HLe := Lib.hid (HL.out wr.drew.drew HQ.out.drew.drew a i (by omega) (by omega))
            rw [hah] at HLe
            clear HL HW hah
            go_wp2_with fail
            refine HLe.out.mono ?_
            rintro e w2 ⟨rfl, hw2⟩
            subst hw2
            clear HLe
            go_wp2_with fail
            go_ret
            obtain ⟨hl, h2, h3, h4⟩ := HS.out
            first
            | exact ⟨by rw [← h2, HU.out]; exact h3.drew.drew.drew.drew, h4.drew.drew.drew.drew⟩
            | exact ⟨_, rfl, by rw [← h2, HU.out]; exact h3.drew.drew.drew.drew, h4.drew.drew.drew.drew⟩
      · have b1 : ¬ (b : Int) < (n : Int) := by omega
        have HK : Hid (kidF ys i n = a) := HKa.out (fun h => hnb h.1)
        cases hah : aheadAt ys a i with
        | true =>
          have HU := Lib.hid (show downF ys i n = downF (swapT ys i a) a n by rw [HD.out hna, HK.out, if_pos hah])
          have HLe := Lib.hid (HL.out wr HQ.out a i (by omega) (by omega))
          rw [hah] at HLe
          have HSw := Lib.hid (HW.out wr.drew.drew (HQ.out).drew.drew i a (by omega) (by omega))
          clear HL HW hah
          go_wp2_with fail
          refine HLe.out.mono ?_
          rintro e w2 ⟨rfl, hw2⟩
          subst hw2
          clear HLe
          go_wp2_with fail
          refine HSw.out.mono ?_
          rintro e w3 ⟨rfl, ho, hbl⟩
          have HR : Hid ((swapT ys i a).length = m ∧ downF (swapT ys i a) a n = downF xs i0 n ∧ Hq w3 k base v (swapT ys i a) ∧ Kq k v w w3) := by
            obtain ⟨hl, h2, h3, h4⟩ := HS.out
            exact ⟨by rw [swapT_length]; exact hl, by rw [← h2, HU.out], ho, h4.drew.drew.trans (hbl (Nat.le_trans hb h4.size))⟩
          clear HSw ho hbl HS
          go_wp2_with fail
          go_roundw
          case rel => exact ⟨a, _, rfl, by omega, HR⟩
          case measure => simp [intOf]; omega
        | false =>
          have HU := Lib.hid (show downF ys i n = ys by rw [HD.out hna, HK.out, hah, if_neg (by decide)])
          have HLe := Lib.hid (HL.out wr HQ.out a i (by omega) (by omega))
          rw [hah] at HLe
          clear HL HW hah
          go_wp2_with fail
          refine HLe.out.mono ?_
          rintro e w2 ⟨rfl, hw2⟩
          subst hw2
          clear HLe
          go_wp2_with fail
          go_ret
          obtain ⟨hl, h2, h3, h4⟩ := HS.out
          first
          | exact ⟨by rw [← h2, HU.out]; exact h3.drew.drew, h4.drew.drew⟩
          | exact ⟨_, rfl, by rw [← h2, HU.out]; exact h3.drew.drew, h4.drew.drew⟩
end Go.Proofs.Ytkhlkbgolonkkaa
