/- Lanes: Budget, the package's and the document's (written by parts/gen_lnbud.py). Own work. -/
import Derived.Test.YtmgekglndjigiaaLnSl
namespace Go.Proofs.Ytmgekglndjigiaa
open Go.RowKit
/-- a slot that counts -/
def goodB (s : ByteArray) (x : S3) : Bool := (x.s.toList == s.toList) && decide (0 ≤ x.f) && decide (x.f < x.t) && decide (x.t ≤ 65536)
def budF (s : ByteArray) : Int → List S3 → Int
  | a, [] => a
  | a, x :: r => budF s (if goodB s x then a + (x.t - x.f) else a) r
theorem budF_le (s : ByteArray) : ∀ (l : List S3) (a : Int), a ≤ budF s a l ∧ budF s a l ≤ a + 65536 * l.length
  | [], a => by unfold budF; simp
  | x :: r, a => by
    unfold budF
    by_cases h : goodB s x = true
    · rw [if_pos h]
      have h' := h
      unfold goodB at h'
      simp only [Bool.and_eq_true, decide_eq_true_eq] at h'
      have := budF_le s r (a + (x.t - x.f))
      simp only [List.length_cons]
      omega
    · rw [if_neg h]
      have := budF_le s r a
      simp only [List.length_cons]
      omega
set_option maxRecDepth 100000 in
set_option maxHeartbeats 4000000 in
theorem budget_any {w : World} {v : Value} {xs : List S3} {s : ByteArray} (h : Rs w v xs) (hp : xs.length ≤ 4398046511000) : Calls Try.prog 15 #[v, .string s] w fun e w' => e = .returned (.int .i64 (budF s 0 xs)) ∧ Below w.heap.size w w' := by
  have HR := Lib.hid h
  obtain ⟨ao, cap, rfl, h1, h2, h3, _⟩ := h
  unfold maxLen at h2
  obtain ⟨n, hn⟩ : ∃ n, xs.length = n := ⟨_, rfl⟩
  have HN := Lib.hid hn
  have HX : Hid (∀ x ∈ xs, I64 x) := h3
  rw [hn] at h1 hp ⊢
  obtain ⟨R, hR⟩ : ∃ R, budF s 0 xs = R := ⟨_, rfl⟩
  rw [hR]
  have HR0 : Hid (budF s 0 (xs.drop 0) = R) := hR
  clear hn h3 hR
  go_enter Try.func15, Try.ntmps15
  go_wp2_with fail
  go_loopw [5, 10] (fun av iv wr => ∃ (i : Nat) (a : Int), i ≤ n ∧ iv = .int .i64 (i : Int) ∧ av = .int .i64 a ∧ 0 ≤ a ∧ a ≤ 65536 * (i : Int) ∧ Hid (budF s a (xs.drop i) = R) ∧ Hid (Below w.heap.size w wr)) (fun _ iv _ => n - (intOf iv).toNat)
  case atStart => exact ⟨0, 0, by omega, rfl, rfl, by omega, by omega, HR0, Below.refl _ _⟩
  case round =>
    clear HR0
    obtain ⟨i, a, hi, rfl, rfl, ha0, ha1, HE, HB⟩ := hrel
    by_cases hin : i < n
    · have hix : i < xs.length := by rw [HN.out]; exact hin
      have ji : (i : Int) < (n : Int) := by omega
      have hw1 : IntKind.i64.wrap ((i : Int) + 1) = ((i + 1 : Nat) : Int) := by rw [IntKind.wrap_i64]; omega
      obtain ⟨_, _, e', _, _, _, hc⟩ := HR.out.below HB.out
      simp only [Value.slice.injEq] at e'
      obtain ⟨rfl, _, rfl⟩ := e'
      obtain ⟨b, of, rfl, c0, c1, c2⟩ := hc i hix
      obtain ⟨x0, x1, x2, x3⟩ := HX.out xs[i] (List.getElem_mem _)
      have HD : Hid (budF s a (xs[i] :: xs.drop (i + 1)) = R) := by
        have := HE.out
        rw [List.drop_eq_getElem_cons hix] at this
        exact this
      clear hc HE
      generalize xs[i] = x at *
      obtain ⟨q, f, t⟩ := x
      simp only at c0 c1 c2 x0 x1 x2 x3
      by_cases hg : goodB s ⟨q, f, t⟩ = true
      · have HE2 : Hid (budF s (a + (t - f)) (xs.drop (i + 1)) = R) := by
          have := HD.out
          unfold budF at this
          rw [if_pos hg] at this
          exact this
        unfold goodB at hg
        simp only [Bool.and_eq_true, decide_eq_true_eq] at hg
        obtain ⟨⟨⟨g1, g2⟩, g3⟩, g4⟩ := hg
        clear HD
        have hw2 : IntKind.i64.wrap (a + (t - f)) = a + (t - f) := by rw [IntKind.wrap_i64]; omega
        have hw3 : IntKind.i64.wrap (a + t - f) = a + t - f := by rw [IntKind.wrap_i64]; omega
        go_wp2_with fail
        go_roundw
        case rel => exact ⟨i + 1, a + (t - f), by omega, rfl, by first | rfl | (congr 1; omega), by omega, by omega, HE2, HB.out.alloc HB.out.size _⟩
        case measure => simp [intOf]; omega
      · have HE2 : Hid (budF s a (xs.drop (i + 1)) = R) := by
          have := HD.out
          unfold budF at this
          rw [if_neg hg] at this
          exact this
        unfold goodB at hg
        clear HD
        by_cases g1 : (q.toList == s.toList) = true
        · by_cases g2 : 0 ≤ f
          · by_cases g3 : f < t
            · have g4 : 65536 < t := by
                simp only [Bool.and_eq_true, decide_eq_true_eq, g1, g2, g3, true_and] at hg
                omega
              clear hg
              go_wp2_with fail
              go_roundw
              case rel => exact ⟨i + 1, a, by omega, rfl, rfl, ha0, by omega, HE2, HB.out.alloc HB.out.size _⟩
              case measure => simp [intOf]; omega
            · clear hg
              go_wp2_with fail
              go_roundw
              case rel => exact ⟨i + 1, a, by omega, rfl, rfl, ha0, by omega, HE2, HB.out.alloc HB.out.size _⟩
              case measure => simp [intOf]; omega
          · clear hg
            go_wp2_with fail
            go_roundw
            case rel => exact ⟨i + 1, a, by omega, rfl, rfl, ha0, by omega, HE2, HB.out.alloc HB.out.size _⟩
            case measure => simp [intOf]; omega
        · have g1' : (q.toList == s.toList) = false := by simpa using g1
          clear hg g1
          go_wp2_with fail
          go_roundw
          case rel => exact ⟨i + 1, a, by omega, rfl, rfl, ha0, by omega, HE2, HB.out.alloc HB.out.size _⟩
          case measure => simp [intOf]; omega
    · obtain rfl : i = n := by omega
      have HF : Hid (a = R) := by
        have := HE.out
        rw [List.drop_eq_nil_of_le (by rw [HN.out]; exact Nat.le_refl _)] at this
        exact this
      go_wp2_with fail
      go_ret
      exact ⟨by rw [← HF.out]; rfl, HB.out⟩
end Go.Proofs.Ytmgekglndjigiaa
