/- Fit. Own work. -/
import Derived.Test.YtogcpogoamoljaaSpSizeU8
import Derived.Test.YtogcpogoamoljaaSpNumU8
namespace Go.Proofs.Ytogcpogoamoljaa.U8
open Go.RowKit Go.Shelf Go.Proofs.Ytogcpogoamoljaa.Sp

/-- Fit's answer, span by span. -/
def fitL (size al : Int) : List Sp → Int × Bool
  | [] => (0, false)
  | x :: r => if (upB x.1 al).2 = false then (0, false) else if (addB (upB x.1 al).1 (size - 1)).2 = true ∧ (addB (upB x.1 al).1 (size - 1)).1 ≤ x.2 then ((upB x.1 al).1, true) else fitL size al r
theorem addB_in {a b : Int} (ha : 0 ≤ a) (hb : 0 ≤ b) : 0 ≤ (addB a b).1 ∧ (addB a b).1 ≤ 255 := by
  unfold addB
  split <;> simp <;> omega
theorem upB_in {a al : Int} (ha : 0 ≤ a ∧ a ≤ 255) (hb : 0 ≤ al) : 0 ≤ (upB a al).1 ∧ (upB a al).1 ≤ 255 := by
  unfold upB
  split
  · simp
  · rename_i h
    have hr0 := Int.emod_nonneg a h
    have hr1 := Int.emod_lt_of_pos a (show 0 < al by omega)
    split
    · exact ha
    · exact addB_in ha.1 (by omega)
set_option maxHeartbeats 1000000 in
theorem fit_zero {w : World} {v : Value} {al : Int} :
    Calls Try.prog 16 #[.agg #[v], .int .u8 0, .int .u8 al] w fun e w' => e = .returned (.tuple #[.int .u8 0, .bool false]) ∧ Below w.heap.size w w' := by
  go_enter Try.func16, Try.ntmps16
  go_wp2_with fail
  go_ret2
  exact ⟨rfl, (Below.refl _ _).alloc (Nat.le_refl _) _⟩
set_option maxHeartbeats 4000000 in
theorem fit_any {w : World} {v : Value} {xs : List Sp} {size al : Int} (hv : SV w v xs) (hc : Canon 255 xs) (hs : 0 < size ∧ size ≤ 255) (ha : 0 ≤ al ∧ al ≤ 255) :
    Calls Try.prog 16 #[.agg #[v], .int .u8 size, .int .u8 al] w fun e w' => e = .returned (.tuple #[.int .u8 (fitL size al xs).1, .bool (fitL size al xs).2]) ∧ Below w.heap.size w w' := by
  have HV : Hid (∀ X, SV (w.alloc X) v xs) := fun X => hv.alloc X
  have HC : Hid (Canon 255 xs) := hc
  obtain ⟨ao, cap, rfl, h1, h2, h3, h4, h5⟩ := hv
  unfold maxLen at h2
  clear h3 h4 h5 hc
  obtain ⟨fn, fb, hf⟩ : ∃ fn fb, fitL size al xs = (fn, fb) := ⟨_, _, rfl⟩
  rw [hf]
  have HF : Hid (fitL size al xs = (fn, fb)) := hf
  have hz : (size == 0) = false := by simp; omega
  clear hf
  go_enter Try.func16, Try.ntmps16
  go_wp2_with fail
  obtain ⟨W0, hW0⟩ : ∃ W0, w.alloc (Obj.cells #[.slice ao xs.length cap] 25) = W0 := ⟨_, rfl⟩
  have HV0 : Hid (SV W0 (.slice ao xs.length cap) xs) := hW0 ▸ HV.out _
  have HB0 : Hid (Below w.heap.size w W0) := hW0 ▸ (Below.refl _ _).alloc (Nat.le_refl _) _
  rw [hW0]
  clear hW0 HV
  go_loopw [19] (fun i wr => ∃ k : Nat, k ≤ xs.length ∧ i = .int .i64 (k : Int) ∧ Hid (fitL size al (xs.drop k) = (fn, fb)) ∧ Hid (Below W0.heap.size W0 wr)) (fun i _ => xs.length - (intOf i).toNat)
  case atStart => exact ⟨0, Nat.zero_le _, rfl, HF.out, Below.refl _ _⟩
  case round =>
    obtain ⟨k, hk, rfl, HK, HB⟩ := hrel
    by_cases hlt : k < xs.length
    · obtain ⟨ao', cap', e, _, _, _, _, h5⟩ := HV0.out.below HB.out (Nat.le_refl _)
      cases e
      obtain ⟨g, off, rfl, d0, d1⟩ := h5 k hlt
      clear h5
      have hb := HC.out.1 xs[k] (List.getElem_mem _)
      have hdr := List.drop_eq_getElem_cons hlt
      obtain ⟨x, hx⟩ : ∃ x, x = xs[k] := ⟨_, rfl⟩
      rw [← hx] at d0 d1 hb hdr
      have hK := HK.out
      rw [hdr, fitL] at hK
      have HU : Hid (∀ W, Calls Try.prog 30 #[.int .u8 x.1, .int .u8 al] W fun e w' => e = .returned (.tuple #[.int .u8 (upB x.1 al).1, .bool (upB x.1 al).2]) ∧ w' = W) := fun W => up_any (by omega) ha W
      have hin := upB_in (a := x.1) (al := al) (by omega) ha.1
      obtain ⟨p, b, hp⟩ : ∃ p b, upB x.1 al = (p, b) := ⟨_, _, rfl⟩
      rw [hp] at HU hK hin
      have HBX : Hid (∀ X, Below W0.heap.size W0 (wr.alloc X)) := fun X => HB.out.alloc HB.out.size X
      obtain ⟨n0, n1⟩ := new2 (W := wr) rfl (.int .u8 x.1) (.int .u8 x.2) 28
      clear hx hp hdr
      by_cases hbb : b = true
      · subst hbb
        have HA : Hid (∀ W, Calls Try.prog 31 #[.int .u8 p, .int .u8 (size - 1)] W fun e w' => e = .returned (.tuple #[.int .u8 (addB p (size - 1)).1, .bool (addB p (size - 1)).2]) ∧ w' = W) := fun W => add_any hin (by omega) W
        obtain ⟨q, c, hq⟩ : ∃ q c, addB p (size - 1) = (q, c) := ⟨_, _, rfl⟩
        rw [hq] at HA hK
        simp only [Bool.true_eq_false, if_false] at hK
        have HKK : Hid ((if c = true ∧ q ≤ x.2 then (p, true) else fitL size al (xs.drop (k + 1))) = (fn, fb)) := hK
        clear hK hq hin
        go_wp2_with fail
        refine (HU.out _).mono ?_
        rintro e w' ⟨rfl, rfl⟩
        clear HU
        go_wp2_with fail
        refine (HA.out _).mono ?_
        rintro e w' ⟨rfl, rfl⟩
        clear HA
        cases c with
        | false =>
          have HN : Hid (fitL size al (xs.drop (k + 1)) = (fn, fb)) := show fitL size al (xs.drop (k + 1)) = (fn, fb) by have := HKK.out; simpa using this
          go_wp2_with fail
          go_roundw
          case rel => exact ⟨k + 1, by omega, by go_num, HN.out, HBX.out _⟩
          case measure => simp [intOf]; omega
        | true =>
          by_cases hle : q ≤ x.2
          · have hE : (p, true) = (fn, fb) := by have := HKK.out; simpa [hle] using this
            cases hE
            have hd : decide (q ≤ x.2) = true := decide_eq_true hle
            go_wp2_with fail
            go_ret2
            exact ⟨rfl, HB0.out.trans ((HBX.out _).mono HB0.out.size)⟩
          · have HN : Hid (fitL size al (xs.drop (k + 1)) = (fn, fb)) := show fitL size al (xs.drop (k + 1)) = (fn, fb) by have := HKK.out; simpa [hle] using this
            have hd : decide (q ≤ x.2) = false := decide_eq_false hle
            go_wp2_with fail
            go_roundw
            case rel => exact ⟨k + 1, by omega, by go_num, HN.out, HBX.out _⟩
            case measure => simp [intOf]; omega
      · rw [Bool.not_eq_true] at hbb
        subst hbb
        simp only [if_true] at hK
        cases hK
        go_wp2_with fail
        refine (HU.out _).mono ?_
        rintro e w' ⟨rfl, rfl⟩
        go_wp2_with fail
        go_ret2
        exact ⟨rfl, HB0.out.trans ((HBX.out _).mono HB0.out.size)⟩
    · have hK := HK.out
      rw [List.drop_eq_nil_of_le (by omega), fitL] at hK
      cases hK
      go_wp2_with fail
      go_ret2
      exact ⟨rfl, HB0.out.trans (HB.out.mono HB0.out.size)⟩
end Go.Proofs.Ytogcpogoamoljaa.U8
