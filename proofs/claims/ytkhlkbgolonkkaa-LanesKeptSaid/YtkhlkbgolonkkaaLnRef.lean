/- Lanes: refused of any runs; inTurn. Own work. -/
import Derived.Test.YtkhlkbgolonkkaaLnRun
namespace Go.Proofs.Ytkhlkbgolonkkaa
open Go.RowKit
/-- the first run that may not be -/
def refF (m : Nat) (nd : Bool) : Nat → Nat → List R4 → Nat × Int
  | _, _, [] => (0, 0)
  | left, i, r :: rs => if (wantsF m nd r).2 ≠ 0 then (i, (wantsF m nd r).2) else if left < (wantsF m nd r).1 then (i, 93) else refF m nd (left - (wantsF m nd r).1) (i + 1) rs
theorem wantsF_le (m : Nat) (nd : Bool) (r : R4) : (wantsF m nd r).1 ≤ m := by
  unfold wantsF
  split
  · exact Nat.zero_le _
  · split
    · show r.b ≤ m; omega
    · split
      · exact Nat.zero_le _
      · split
        · exact Nat.zero_le _
        · show r.b * (m / r.p) ≤ m
          have h9 : m / r.p * r.p ≤ m := Nat.div_mul_le_self m r.p
          have h10 : r.b * (m / r.p) ≤ r.p * (m / r.p) := Nat.mul_le_mul_right _ (by omega)
          rw [Nat.mul_comm r.p] at h10
          omega
theorem wantsF_err (m : Nat) (nd : Bool) (r : R4) : (wantsF m nd r).2 = 0 ∨ (wantsF m nd r).2 = 90 ∨ (wantsF m nd r).2 = 80 ∨ (wantsF m nd r).2 = 91 := by
  unfold wantsF
  split
  · exact .inr (.inl rfl)
  · split
    · exact .inl rfl
    · split
      · exact .inr (.inr (.inl rfl))
      · split
        · exact .inr (.inr (.inr rfl))
        · exact .inl rfl
set_option maxRecDepth 100000 in
set_option maxHeartbeats 4000000 in
theorem refused_any {w : World} {v : Value} {xs : List R4} {m : Nat} {nd : Bool} {q cp : Int} (h : Rn w v xs) (hm : m ≤ 65536) : Calls Try.prog 25 #[.int .u64 (m : Int), .agg #[.int .i64 q, .int .u64 cp, .bool nd, v]] w fun e w' => e = .returned (.tuple #[.int .i64 ((refF m nd m 0 xs).1 : Int), .int .i64 (refF m nd m 0 xs).2]) ∧ Below w.heap.size w w' := by
  have HR := Lib.hid h
  obtain ⟨ao, cap, rfl, h1, h2, h3, _⟩ := h
  unfold maxLen at h2
  obtain ⟨n, hn⟩ : ∃ n, xs.length = n := ⟨_, rfl⟩
  have HN := Lib.hid hn
  have HX : Hid (∀ x ∈ xs, R4.ok x) := h3
  have HM : Hid (m ≤ 65536) := hm
  rw [hn] at h1 ⊢
  obtain ⟨RV, hRV⟩ : ∃ R, refF m nd m 0 xs = R := ⟨_, rfl⟩
  rw [hRV]
  have HR0 : Hid (refF m nd m 0 (xs.drop 0) = RV) := hRV
  have HB0 : Hid (Below w.heap.size w (w.alloc (.cells #[.int .i64 q, .int .u64 cp, .bool nd, .slice ao n cap] 25))) := (Below.refl _ _).alloc (Nat.le_refl _) _
  have HX0 : Hid ((w.alloc (.cells #[.int .i64 q, .int .u64 cp, .bool nd, .slice ao n cap] 25)).heap[w.heap.size]? = some (.cells #[.int .i64 q, .int .u64 cp, .bool nd, .slice ao n cap] 25 (0, 0))) := Array.getElem?_push_size (xs := w.heap)
  clear hn h3 hRV
  go_enter Try.func25, Try.ntmps25
  go_wp2_with fail
  go_loopw [6, 15] (fun lv iv wr => ∃ (i l : Nat), i ≤ n ∧ iv = .int .i64 (i : Int) ∧ lv = .int .u64 (l : Int) ∧ l ≤ m ∧ Hid (refF m nd l i (xs.drop i) = RV) ∧ Hid (Below w.heap.size w wr) ∧ Hid (wr.heap[w.heap.size]? = some (.cells #[.int .i64 q, .int .u64 cp, .bool nd, .slice ao n cap] 25 (0, 0)))) (fun _ iv _ => n - (intOf iv).toNat)
  case atStart => exact ⟨0, m, by omega, rfl, rfl, Nat.le_refl _, HR0, HB0, HX0⟩
  case round =>
    clear HB0 HX0 HR0
    obtain ⟨i, l, hi, rfl, rfl, hl, HE, HB, HY⟩ := hrel
    by_cases hin : i < n
    · have hix : i < xs.length := by rw [HN.out]; exact hin
      have ji : (i : Int) < (n : Int) := by omega
      have hw1 : IntKind.i64.wrap ((i : Int) + 1) = ((i + 1 : Nat) : Int) := by rw [IntKind.wrap_i64]; omega
      obtain ⟨_, _, e', _, _, _, hc⟩ := HR.out.below HB.out
      simp only [Value.slice.injEq] at e'
      obtain ⟨rfl, _, rfl⟩ := e'
      obtain ⟨b, of, rfl, c0, c1, c2, c3⟩ := hc i hix
      have HK : Hid (R4.ok xs[i]) := HX.out xs[i] (List.getElem_mem _)
      have HD : Hid (refF m nd l i (xs[i] :: xs.drop (i + 1)) = RV) := by
        have := HE.out
        rw [List.drop_eq_getElem_cons hix] at this
        exact this
      clear hc HE
      generalize xs[i] = x at *
      have y2 : wr.cell? ⟨w.heap.size, 2, none⟩ = some (.bool nd) := by rw [cell_of_row _ _ _ _ _ _ HY.out]; rfl
      have y3 := cell_alloc y2 (.cells #[.int .i64 x.k, .string x.s, .int .u64 (x.b : Int), .int .u64 (x.p : Int)] 30)
      have HW : Hid (∀ W, Calls Try.prog 33 #[.int .u64 (m : Int), .bool nd, .agg #[.int .i64 x.k, .string x.s, .int .u64 (x.b : Int), .int .u64 (x.p : Int)]] W fun e w' => e = .returned (.tuple #[.int .u64 ((wantsF m nd x).1 : Int), .int .i64 (wantsF m nd x).2]) ∧ Below W.heap.size W w') := fun W => wants_any HK.out HM.out W
      have hle := wantsF_le m nd x
      have her := wantsF_err m nd x
      unfold refF at HD
      clear y2
      go_wp2_with fail
      refine (HW.out _).mono ?_
      rintro e w5 ⟨rfl, hb5⟩
      have ha : Below wr.heap.size wr w5 := ((Below.refl _ _).alloc (Nat.le_refl _) _).trans (hb5.mono (by simp))
      have HB5 : Hid (Below w.heap.size w w5) := HB.out.trans (ha.mono HB.out.size)
      have HY5 : Hid (w5.heap[w.heap.size]? = some (.cells #[.int .i64 q, .int .u64 cp, .bool nd, .slice (some ⟨b, of, none⟩) n cap] 25 (0, 0))) := (ha.block w.heap.size (Array.getElem?_eq_some_iff.1 HY.out).1).trans HY.out
      clear ha hb5 y3 c0 c1 c2 c3 HW HB HY HK
      generalize wantsF m nd x = z at *
      obtain ⟨t, er⟩ := z
      simp only at hle her HD ⊢
      by_cases h5 : er = 0
      · subst h5
        by_cases h6 : l < t
        · have j6 : (l : Int) < (t : Int) := by omega
          have HF : Hid ((i, (93 : Int)) = RV) := by
            have := HD.out
            simp only [ne_eq, not_true_eq_false, if_false, h6, if_true] at this
            exact this
          clear HD her
          go_wp2_with fail
          go_ret2
          exact ⟨by rw [← HF.out]; rfl, HB5.out⟩
        · have j6 : ¬ (l : Int) < (t : Int) := by omega
          have HF : Hid (refF m nd (l - t) (i + 1) (xs.drop (i + 1)) = RV) := by
            have := HD.out
            simp only [ne_eq, not_true_eq_false, if_false, h6] at this
            exact this
          have hw2 : IntKind.u64.wrap ((l : Int) - (t : Int)) = ((l - t : Nat) : Int) := by rw [IntKind.wrap_u64]; omega
          clear HD her
          go_wp2_with fail
          go_roundw
          case rel => exact ⟨i + 1, l - t, by omega, rfl, rfl, by omega, HF, HB5, HY5⟩
          case measure => simp [intOf]; omega
      · have HF : Hid ((i, er) = RV) := by
          have := HD.out
          simp only [ne_eq, h5, not_false_eq_true, if_true] at this
          exact this
        clear HD her
        go_wp2_with fail
        go_ret2
        exact ⟨by rw [← HF.out]; rfl, HB5.out⟩
    · obtain rfl : i = n := by omega
      have HF : Hid ((0, (0 : Int)) = RV) := by
        have := HE.out
        rw [List.drop_eq_nil_of_le (by rw [HN.out]; exact Nat.le_refl _)] at this
        exact this
      go_wp2_with fail
      go_ret2
      exact ⟨by rw [← HF.out]; rfl, HB.out⟩
end Go.Proofs.Ytkhlkbgolonkkaa
