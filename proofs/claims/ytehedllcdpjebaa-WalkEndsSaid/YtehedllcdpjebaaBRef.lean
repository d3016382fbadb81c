/- refusal: why a range may not be laid beside the ground. Own work. -/
import Derived.Test.YtehedllcdpjebaaBAsk
namespace Go.Proofs.Ytehedllcdpjebaa
open Go.RowKit Go.Maps Go.Proofs.Ytehedllcdpjebaa.Sp
def refuseV (G : List Sp) (a s most : Int) : Int :=
  if s = 0 ∨ s % 4096 ≠ 0 ∨ most < s then 32 else if a % 4096 ≠ 0 then 33 else if 4294967296 ≤ a + (s - 1) then 34 else if touchesB G (a, a + (s - 1)) then 35 else 0
set_option maxRecDepth 100000 in
set_option maxHeartbeats 4000000 in
theorem refusal_any {w : World} {vg : Value} {G : List Sp} {a s most : Int} (hv : U64.SV w vg G) (hc : Canon 18446744073709551615 G) (hl : G.length ≤ 64) (ha : 0 ≤ a ∧ a ≤ 18446744073709551615) (hs : 0 ≤ s ∧ s ≤ 18446744073709551615) (hm : 0 ≤ most ∧ most ≤ 18446744073709551615) :
    Calls Try.prog 37 #[.agg #[vg], .agg #[.int .u64 a, .int .u64 s], .int .u64 most] w fun e w' => e = .returned (.int .i64 (refuseV G a s most)) ∧ Below w.heap.size w w' := by
  have HB0 : Hid (∀ X Y, Below w.heap.size w ((w.alloc X).alloc Y)) := fun X Y => ((Below.refl _ _).alloc (Nat.le_refl _) _).alloc (by simp) _
  have HV : Hid (U64.SV w vg G) := hv
  have HC : Hid (Canon 18446744073709551615 G) := hc
  clear hv hc
  obtain ⟨a0, a1⟩ := ha
  obtain ⟨s0, s1⟩ := hs
  obtain ⟨m0, m1⟩ := hm
  by_cases c1 : s = 0
  · subst c1
    have HE : Hid (refuseV G a 0 most = 32) := if_pos (.inl rfl)
    have HAdd : Hid (∀ W, Calls Try.prog 45 #[.int .u64 a, .int .u64 18446744073709551615] W fun e w' => e = .returned (.tuple #[.int .u64 (U64.addB a 18446744073709551615).1, .bool (U64.addB a 18446744073709551615).2]) ∧ w' = W) := fun W => U64.add_any (by omega) (by omega) W
    go_enter Try.func37, Try.ntmps37
    go_wp2_with (first | (go_at_call 45; refine (HAdd.out _).mono ?_; rintro e w' ⟨rfl, hw'⟩; have hw' := hw'.symm; subst hw'))
    go_ret
    exact ⟨by rw [HE.out]; rfl, HB0.out _ _⟩
  · have hw1 : IntKind.u64.wrap (s - 1) = s - 1 := U64.wrap_in (by omega) (by omega)
    obtain ⟨x, y, hxy⟩ : ∃ x y, U64.addB a (s - 1) = (x, y) := ⟨_, _, rfl⟩
    have HXY : Hid (U64.addB a (s - 1) = (x, y)) := hxy
    have HAdd : Hid (∀ W, Calls Try.prog 45 #[.int .u64 a, .int .u64 (s - 1)] W fun e w' => e = .returned (.tuple #[.int .u64 x, .bool y]) ∧ w' = W) := fun W => by
      have := U64.add_any (a := a) (b := s - 1) (by omega) (by omega) W
      rw [hxy] at this
      exact this
    clear hxy
    by_cases c2 : s % 4096 = 0
    · by_cases c3 : most < s
      · have HE : Hid (refuseV G a s most = 32) := if_pos (.inr (.inr c3))
        go_enter Try.func37, Try.ntmps37
        go_wp2_with (first | (go_at_call 45; refine (HAdd.out _).mono ?_; rintro e w' ⟨rfl, hw'⟩; have hw' := hw'.symm; subst hw'))
        go_ret
        exact ⟨by rw [HE.out]; rfl, HB0.out _ _⟩
      · have e1 : (s == 0) = false := by simpa using c1
        have e3 : decide (most < s) = false := decide_eq_false c3
        have HR : Hid (refuseV G a s most = if a % 4096 ≠ 0 then 33 else if 4294967296 ≤ a + (s - 1) then 34 else if touchesB G (a, a + (s - 1)) then 35 else 0) := if_neg (by omega)
        by_cases c4 : a % 4096 = 0
        · by_cases c5 : 4294967296 ≤ a + (s - 1)
          · have HE : Hid (refuseV G a s most = 34) := by rw [HR.out, if_neg (by omega), if_pos c5]; exact (rfl : _ = _)
            have hy : y = false ∨ (y = true ∧ 4294967296 ≤ x) := by
              have := HXY.out
              unfold U64.addB at this
              split at this
              · cases this; exact .inr ⟨rfl, c5⟩
              · cases this; exact .inl rfl
            rcases hy with rfl | ⟨rfl, hx⟩
            · go_enter Try.func37, Try.ntmps37
              go_wp2_with (first | (go_at_call 45; refine (HAdd.out _).mono ?_; rintro e w' ⟨rfl, hw'⟩; have hw' := hw'.symm; subst hw'))
              go_ret
              exact ⟨by rw [HE.out]; rfl, HB0.out _ _⟩
            · go_enter Try.func37, Try.ntmps37
              go_wp2_with (first | (go_at_call 45; refine (HAdd.out _).mono ?_; rintro e w' ⟨rfl, hw'⟩; have hw' := hw'.symm; subst hw'))
              go_ret
              exact ⟨by rw [HE.out]; rfl, HB0.out _ _⟩
          · have hxy2 : x = a + (s - 1) ∧ y = true := by
              have := HXY.out
              unfold U64.addB at this
              rw [if_pos (by omega)] at this
              cases this; exact ⟨rfl, rfl⟩
            obtain ⟨hx, rfl⟩ := hxy2
            have hx2 : x < 4294967296 := by omega
            obtain ⟨tb, htb⟩ : ∃ tb, tb = touchesB G (a, x) := ⟨_, rfl⟩
            have HE : Hid (refuseV G a s most = if tb then 35 else 0) := by show _ = _; rw [HR.out, if_neg (by omega), if_neg c5, htb, hx]
            have HT : Hid (∀ W, Below w.heap.size w W → Calls Try.prog 53 #[.agg #[vg], .agg #[.int .u64 a, .int .u64 x]] W fun e w' => e = .returned (.bool tb) ∧ Below W.heap.size W w') := fun W hW => by
              rw [htb]
              exact U64.touches_any (x := (a, x)) (HV.out.below hW (Nat.le_refl _)) HC.out (by omega)
            clear hx htb
            cases tb with
            | true =>
              go_enter Try.func37, Try.ntmps37
              go_wp2_with (first | (go_at_call 45; refine (HAdd.out _).mono ?_; rintro e w' ⟨rfl, hw'⟩; have hw' := hw'.symm; subst hw'))
              refine (HT.out _ (HB0.out _ _)).mono ?_
              rintro e w2 ⟨rfl, hb2⟩
              have HB2 : Hid (Below w.heap.size w w2) := (HB0.out _ _).trans (hb2.mono (by simp; omega))
              clear hb2
              go_wp2_with fail
              go_ret
              exact ⟨by rw [HE.out]; rfl, HB2.out⟩
            | false =>
              go_enter Try.func37, Try.ntmps37
              go_wp2_with (first | (go_at_call 45; refine (HAdd.out _).mono ?_; rintro e w' ⟨rfl, hw'⟩; have hw' := hw'.symm; subst hw'))
              refine (HT.out _ (HB0.out _ _)).mono ?_
              rintro e w2 ⟨rfl, hb2⟩
              have HB2 : Hid (Below w.heap.size w w2) := (HB0.out _ _).trans (hb2.mono (by simp; omega))
              clear hb2
              go_wp2_with fail
              go_ret
              exact ⟨by rw [HE.out]; rfl, HB2.out⟩
        · have HE : Hid (refuseV G a s most = 33) := by rw [HR.out]; exact if_pos c4
          go_enter Try.func37, Try.ntmps37
          go_wp2_with (first | (go_at_call 45; refine (HAdd.out _).mono ?_; rintro e w' ⟨rfl, hw'⟩; have hw' := hw'.symm; subst hw'))
          go_ret
          exact ⟨by rw [HE.out]; rfl, HB0.out _ _⟩
    · have HE : Hid (refuseV G a s most = 32) := if_pos (.inr (.inl c2))
      go_enter Try.func37, Try.ntmps37
      go_wp2_with (first | (go_at_call 45; refine (HAdd.out _).mono ?_; rintro e w' ⟨rfl, hw'⟩; have hw' := hw'.symm; subst hw'))
      go_ret
      exact ⟨by rw [HE.out]; rfl, HB0.out _ _⟩
end Go.Proofs.Ytehedllcdpjebaa
