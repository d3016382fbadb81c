/- LanesRuns: the walk. Own work. -/
import Derived.Test.YtaakabmemhfldaaLnRuM
import Derived.Test.YtaakabmemhfldaaLnKnown
namespace Go.Proofs.Ytaakabmemhfldaa
open Go.RowKit
theorem ref_bad {m : Nat} : ∀ (xs : List R4) (l i : Nat), (∀ r ∈ xs, 1 ≤ r.b ∧ r.b ≤ m) → (sumN xs ≤ l → (refF m false l i xs).2 = 0) ∧ (l < sumN xs → (refF m false l i xs).2 = 93)
  | [], l, i, _ => ⟨fun _ => rfl, fun h => absurd h (by simp [sumN])⟩
  | x :: r, l, i, h => by
    have hx := h x (by simp)
    have e : wantsF m false x = (x.b, 0) := by unfold wantsF; rw [if_neg (by omega), if_pos rfl]
    unfold refF
    rw [e]
    simp only [ne_eq, not_true_eq_false, if_false, sumN]
    by_cases h2 : l < x.b
    · rw [if_pos h2]
      exact ⟨fun h3 => by omega, fun _ => rfl⟩
    · rw [if_neg h2]
      obtain ⟨a1, a2⟩ := ref_bad r (l - x.b) (i + 1) (fun y hy => h y (by simp [hy]))
      exact ⟨fun h3 => a1 (by omega), fun h3 => a2 (by omega)⟩
theorem gd_bounds : ∀ (xs : List S3) (e : Int) (p : Option ByteArray), Gd e p xs → ∀ x ∈ xs, e ≤ x.f ∧ x.f < x.t ∧ x.t ≤ endE e xs
  | [], _, _, _, x, h => by cases h
  | y :: r, e, p, h, x, hx => by
    have h1 := gd_lt h.1
    have h2 := gd_le r _ _ h.2
    show e ≤ x.f ∧ x.f < x.t ∧ x.t ≤ endE y.t r
    rcases List.mem_cons.1 hx with rfl | hx
    · omega
    · have := gd_bounds r _ _ h.2 x hx
      omega
theorem made_ok2 {m : Nat} {xs : List R4} (hs : sumN xs ≤ m) (hm : m ≤ 65536) : ∀ x ∈ madeF m xs, I64 x ∧ x.t ≤ (m : Int) := by
  have e0 : endF [] = 0 := rfl
  obtain ⟨k1, _, _⟩ := turn_all xs [] trivial (by rw [e0]; omega)
  have ee := turnF_end xs []
  rw [e0] at ee
  obtain ⟨g1, _, _⟩ := adds_gd (s := sN) (n := (m : Int) - (sumN xs : Int)) k1 (by omega)
  have ef := adds_end (turnF [] xs) sN ((m : Int) - (sumN xs : Int))
  intro x hx
  have h1 := gd_bounds _ _ _ g1 x hx
  have h2 := endE_endF (adds (turnF [] xs) sN ((m : Int) - (sumN xs : Int)))
  unfold I64
  omega
theorem made_ok {m : Nat} {xs : List R4} (hs : sumN xs ≤ m) (hm : m ≤ 65536) : ∀ x ∈ madeF m xs, I64 x := fun x hx => (made_ok2 hs hm x hx).1
theorem find_bd {M : Int} (hM : 0 ≤ M) {t : Int} (ht : 0 ≤ t) : ∀ (xs : List S3), (∀ x ∈ xs, x.t ≤ M) → (findS t xs).2 ≤ M
  | [], _ => hM
  | x :: r, h => by
    unfold findS
    have := h x (by simp)
    split
    · show x.t - t ≤ M
      omega
    · exact find_bd hM ht r (fun y hy => h y (by simp [hy]))
/-- Sched, as the law asks it -/
theorem sched_law {m : Nat} {xs : List R4} (hs : sumN xs ≤ m) (hm0 : 0 < m) (hm : m ≤ 65536) (hl : (madeF m xs).length ≤ 4096) {t : Nat} (ht : t < m) {S : ByteArray} (hS : (findS (t : Int) (madeF m xs)).1 = S) : ∃ mr : Nat, (findS (t : Int) (madeF m xs)) = (S, (mr : Int)) ∧ 1 ≤ mr ∧ mr ≤ 65536 ∧ ∀ W u, Rs W u (madeF m xs) → Calls Try.prog 11 #[u, .int .i64 (t : Int)] W fun e w' => e = .returned (.tuple #[.string S, .int .i64 (mr : Int)]) ∧ Below W.heap.size W w' := by
  obtain ⟨_, _, _, h4⟩ := made_all hs hm0
  have h5 := h4 (t : Int) (by omega) (by omega)
  have h6 := find_bd (M := (m : Int)) (by omega) (t := (t : Int)) (by omega) _ (fun x hx => (made_ok2 hs hm x hx).2)
  refine ⟨(findS (t : Int) (madeF m xs)).2.toNat, ?_, by omega, by omega, fun W u hu => ?_⟩
  · rw [Int.toNat_of_nonneg (by omega), ← hS]
  · have h7 := sched_any (o := (t : Int)) hu (by omega)
    rw [sched_made hs hm0 (by omega) (by omega), hS] at h7
    rw [Int.toNat_of_nonneg (by omega)]
    exact h7
theorem OwnS.rs {w : World} {base : Nat} {v : Value} {xs : List S3} (h : OwnS w base v xs) (hx : ∀ x ∈ xs, I64 x) : Rs w v xs := by
  by_cases hp : 0 < xs.length
  · obtain ⟨g, cap, rfl, _, _, hc, hm⟩ := h.pos hp
    refine ⟨some ⟨g, 0, none⟩, cap, rfl, hc, hm, hx, fun i hi => ⟨g, 0, rfl, ?_, ?_, ?_⟩⟩
    · have := h.cell i 0 hi (by omega)
      rw [Nat.zero_add]
      exact this
    · have := h.cell i 1 hi (by omega)
      rw [Nat.zero_add]
      exact this
    · have := h.cell i 2 hi (by omega)
      rw [Nat.zero_add]
      exact this
  · have h0 : xs = [] := List.eq_nil_of_length_eq_zero (by omega)
    subst h0
    rcases h.2 with ⟨rfl, _⟩ | ⟨g, cap, cur, rfl, _, _, h1, h2, _⟩
    · exact ⟨none, 0, rfl, Nat.le_refl _, Nat.zero_le _, hx, fun i hi => by simp at hi⟩
    · exact ⟨_, cap, rfl, h1, h2, hx, fun i hi => by simp at hi⟩

theorem flat_law {w : World} {v : Value} {xs : List R4} {m : Nat} {q cp : Int} (h : Rn w v xs) (hm : m ≤ 65536) (hb : ∀ r ∈ xs, 1 ≤ r.b ∧ r.b ≤ m) : Calls Try.prog 10 #[.int .u64 (m : Int), .agg #[.int .i64 q, .int .u64 cp, .bool false, v]] w fun e w' => Below w.heap.size w w' ∧
    ((m < sumN xs ∧ ∃ at' : Int, e = .returned (.tuple #[.slice none 0 0, .int .i64 at', .int .i64 93])) ∨
     (sumN xs ≤ m ∧ ∃ at' er : Int, (er = 4 ∨ er = 92) ∧ e = .returned (.tuple #[.slice none 0 0, .int .i64 at', .int .i64 er])) ∨
     (sumN xs ≤ m ∧ 0 < m ∧ (madeF m xs).length ≤ 4096 ∧ ∃ u, e = .returned (.tuple #[u, .int .i64 0, .int .i64 0]) ∧ Rs w' u (madeF m xs))) := by
  obtain ⟨a1, a2⟩ := ref_bad xs m 0 hb
  by_cases h0 : m = 0
  · refine (flatten_unframed (.inl h0)).mono ?_
    rintro e w' ⟨rfl, hbl⟩
    have hx : xs = [] := by
      cases xs with
      | nil => rfl
      | cons x r => have := hb x (by simp); omega
    exact ⟨hbl, .inr (.inl ⟨by rw [hx]; exact Nat.zero_le _, _, _, .inr rfl, rfl⟩)⟩
  · refine (flatten_runs h (by omega) hm).mono ?_
    rintro e w' ⟨hbl, ⟨hr, rfl⟩ | ⟨hr, hl, rfl⟩ | ⟨hr, hl, u, rfl, ho⟩⟩
    · refine ⟨hbl, .inl ?_⟩
      by_cases hs : sumN xs ≤ m
      · exact absurd (a1 hs) hr
      · exact ⟨by omega, _, by rw [a2 (by omega)]⟩
    · have hs : sumN xs ≤ m := Classical.byContradiction fun hc => by have := a2 (by omega); omega
      exact ⟨hbl, .inr (.inl ⟨hs, _, _, .inl rfl, rfl⟩)⟩
    · have hs : sumN xs ≤ m := Classical.byContradiction fun hc => by have := a2 (by omega); omega
      exact ⟨hbl, .inr (.inr ⟨hs, by omega, hl, u, rfl, ho.rs (made_ok hs hm)⟩)⟩
set_option maxRecDepth 100000 in
set_option maxHeartbeats 4000000 in
theorem lanesRuns_walk {w : World} {v : Value} {xs : List R4} {m : Nat} {q cp : Int} {nd : Bool} (h : Rn w v xs) : Calls Try.prog 3 #[.int .u64 (m : Int), .agg #[.int .i64 q, .int .u64 cp, .bool nd, v]] w fun e w' => e = .returned (.bool true) ∧ Below w.heap.size w w' := by
  have HR := Lib.hid h
  have HFl : Hid (m ≤ 65536 → (∀ r ∈ xs, 1 ≤ r.b ∧ r.b ≤ m) → ∀ W, Below w.heap.size w W → _) := fun hm hb W hW => flat_law (q := q) (cp := cp) (h.below hW) hm hb
  obtain ⟨ao, cap, rfl, h1, h2, h3, _⟩ := h
  have HX : Hid (∀ x ∈ xs, R4.ok x) := h3
  unfold maxLen at h2
  obtain ⟨n, hn⟩ : ∃ n, xs.length = n := ⟨_, rfl⟩
  have HN := Lib.hid hn
  rw [hn] at h1 HFl ⊢
  have HB0 : Hid (Below w.heap.size w (w.alloc (.cells #[.int .i64 q, .int .u64 cp, .bool false, .slice ao n cap] 25))) := (Below.refl _ _).alloc (Nat.le_refl _) _
  have HX0 : Hid ((w.alloc (.cells #[.int .i64 q, .int .u64 cp, .bool false, .slice ao n cap] 25)).heap[w.heap.size]? = some (.cells #[.int .i64 q, .int .u64 cp, .bool false, .slice ao n cap] 25 (0, 0))) := Array.getElem?_push_size (xs := w.heap)
  have HK := Lib.hid known_any
  clear hn h3
  by_cases g1 : 65536 < m
  · have j1 : (65536 : Int) < (m : Int) := by omega
    go_enter Try.func3, Try.ntmps3
    go_wp2_with fail
    refine (HK.out _).mono ?_
    rintro e w1 ⟨rfl, hb1⟩
    have HB1 : Hid (Below w.heap.size w w1) := HB0.out.trans (hb1.mono HB0.out.size)
    clear hb1
    go_wp2_with fail
    go_ret
    exact ⟨rfl, HB1.out⟩
  have j1 : ¬ (65536 : Int) < (m : Int) := by omega
  by_cases g2 : 5000 < n
  · have j2 : (5000 : Int) < (n : Int) := by omega
    go_enter Try.func3, Try.ntmps3
    go_wp2_with fail
    refine (HK.out _).mono ?_
    rintro e w1 ⟨rfl, hb1⟩
    have HB1 : Hid (Below w.heap.size w w1) := HB0.out.trans (hb1.mono HB0.out.size)
    clear hb1
    go_wp2_with fail
    go_ret
    exact ⟨rfl, HB1.out⟩
  have j2 : ¬ (5000 : Int) < (n : Int) := by omega
  have HM : Hid (m ≤ 65536 ∧ n ≤ 5000) := ⟨by omega, by omega⟩
  go_enter Try.func3, Try.ntmps3
  go_wp2_with fail
  clear j1 j2 g1 g2
  go_loopw [5, 6] (fun sv iv wr => ∃ (i s : Nat), i ≤ n ∧ iv = .int .i64 (i : Int) ∧ sv = .int .u64 (s : Int) ∧ s ≤ i * 65536 ∧ Hid (sumN (xs.take i) = s) ∧ Hid (∀ r ∈ xs.take i, 1 ≤ r.b ∧ r.b ≤ m) ∧ Hid (Below w.heap.size w wr) ∧ Hid (wr.heap[w.heap.size]? = some (.cells #[.int .i64 q, .int .u64 cp, .bool false, .slice ao n cap] 25 (0, 0)))) (fun _ iv _ => n - (intOf iv).toNat)
  case atStart => exact ⟨0, 0, by omega, rfl, rfl, by omega, rfl, (fun r h => by simp at h), HB0, HX0⟩
  case round =>
    clear HB0 HX0
    obtain ⟨i, s, hi, rfl, rfl, hs, HS, HA, HB, HY⟩ := hrel
    have y3 : wr.cell? ⟨w.heap.size, 3, none⟩ = some (.slice ao n cap) := by rw [cell_of_row _ _ _ _ _ _ HY.out]; rfl
    by_cases hin : i < n
    · have hix : i < xs.length := by rw [HN.out]; exact hin
      have ji : (i : Int) < (n : Int) := by omega
      have jc : (n : Int) ≤ (cap : Int) := by omega
      have hw1 : IntKind.i64.wrap ((i : Int) + 1) = ((i + 1 : Nat) : Int) := by rw [IntKind.wrap_i64]; omega
      obtain ⟨_, _, e', _, _, _, hc⟩ := HR.out.below HB.out
      simp only [Value.slice.injEq] at e'
      obtain ⟨rfl, _, rfl⟩ := e'
      obtain ⟨b, of, rfl, c0, c1, c2, c3⟩ := hc i hix
      have HT : Hid (xs.take (i + 1) = xs.take i ++ [xs[i]]) := List.take_succ_eq_append_getElem hix
      have HK2 : Hid (R4.ok xs[i]) := HX.out xs[i] (List.getElem_mem _)
      clear hc
      generalize xs[i] = x at *
      by_cases k1 : x.b < 1
      · have l1 : (x.b : Int) < 1 := by omega
        go_wp2_with fail
        refine (HK.out _).mono ?_
        rintro e w1 ⟨rfl, hb1⟩
        have HB1 : Hid (Below w.heap.size w w1) := HB.out.trans (hb1.mono HB.out.size)
        clear hb1
        go_wp2_with fail
        go_ret
        exact ⟨rfl, HB1.out⟩
      · have l1 : ¬ (x.b : Int) < 1 := by omega
        by_cases k2 : m < x.b
        · have l2 : (m : Int) < (x.b : Int) := by omega
          go_wp2_with fail
          refine (HK.out _).mono ?_
          rintro e w1 ⟨rfl, hb1⟩
          have HB1 : Hid (Below w.heap.size w w1) := HB.out.trans (hb1.mono HB.out.size)
          clear hb1
          go_wp2_with fail
          go_ret
          exact ⟨rfl, HB1.out⟩
        · have l2 : ¬ (m : Int) < (x.b : Int) := by omega
          have HA2 : Hid (∀ r ∈ xs.take (i + 1), 1 ≤ r.b ∧ r.b ≤ m) := by
            intro r hr
            rw [HT.out] at hr
            rcases List.mem_append.1 hr with hr | hr
            · exact HA.out r hr
            · simp only [List.mem_singleton] at hr
              subst hr
              omega
          have HS2 : Hid (sumN (xs.take (i + 1)) = s + x.b) := by
            show _ = _
            rw [HT.out, sumN_append, HS.out]
            simp [sumN]
          have hsb : s + x.b ≤ (i + 1) * 65536 := by have := HM.out; omega
          have hw2 : IntKind.u64.wrap ((s : Int) + (x.b : Int)) = ((s + x.b : Nat) : Int) := by have := HM.out; rw [IntKind.wrap_u64]; omega
          clear HT HK2 k1 k2
          go_wp2_with fail
          go_roundw
          case rel => exact ⟨i + 1, s + x.b, by omega, rfl, rfl, hsb, HS2, HA2, HB, HY⟩
          case measure => simp [intOf]; omega
    · obtain rfl : n = i := by omega
      have et : xs.take n = xs := List.take_of_length_le (by rw [HN.out]; exact Nat.le_refl _)
      rw [et] at HS HA
      have HFn := Lib.hid (HFl.out HM.out.1 HA.out wr HB.out)
      rw [HS.out] at HFn
      have y0 : wr.cell? ⟨w.heap.size, 0, none⟩ = some (.int .i64 q) := by rw [cell_of_row _ _ _ _ _ _ HY.out]; rfl
      have y1 : wr.cell? ⟨w.heap.size, 1, none⟩ = some (.int .u64 cp) := by rw [cell_of_row _ _ _ _ _ _ HY.out]; rfl
      have y2 : wr.cell? ⟨w.heap.size, 2, none⟩ = some (.bool false) := by rw [cell_of_row _ _ _ _ _ _ HY.out]; rfl
      clear HFl HA et
      go_wp2_with fail
      refine HFn.out.mono ?_
      rintro e w1 ⟨hb1, hcase⟩
      have HB1 : Hid (Below w.heap.size w w1) := HB.out.trans (hb1.mono HB.out.size)
      have HY1 : Hid (w1.heap[w.heap.size]? = some (.cells #[.int .i64 q, .int .u64 cp, .bool false, .slice ao n cap] 25 (0, 0))) := (hb1.block w.heap.size (Array.getElem?_eq_some_iff.1 HY.out).1).trans HY.out
      clear hb1 HB HY y0 y1 y2 y3 HFn
      rcases hcase with ⟨hs1, at', rfl⟩ | ⟨hs1, at', er, her, rfl⟩ | ⟨hs1, hm0, hlen, u, rfl, hu⟩
      · have l1 : (m : Int) < (s : Int) := by omega
        go_wp2_with fail
        refine (HK.out _).mono ?_
        rintro e w2 ⟨rfl, hb2⟩
        have HB2 : Hid (Below w.heap.size w w2) := HB1.out.trans (hb2.mono HB1.out.size)
        clear hb2
        go_wp2_with fail
        go_ret
        exact ⟨rfl, HB2.out⟩
      · have l1 : ¬ (m : Int) < (s : Int) := by omega
        rcases her with rfl | rfl
        · go_wp2_with fail
          refine (HK.out _).mono ?_
          rintro e w2 ⟨rfl, hb2⟩
          have HB2 : Hid (Below w.heap.size w w2) := HB1.out.trans (hb2.mono HB1.out.size)
          clear hb2
          go_wp2_with fail
          go_ret
          exact ⟨show Ending.returned (.bool (!decide (m < s))) = _ by rw [decide_eq_false (by omega)]; rfl, HB2.out⟩
        · go_wp2_with fail
          refine (HK.out _).mono ?_
          rintro e w2 ⟨rfl, hb2⟩
          have HB2 : Hid (Below w.heap.size w w2) := HB1.out.trans (hb2.mono HB1.out.size)
          clear hb2
          go_wp2_with fail
          go_ret
          exact ⟨show Ending.returned (.bool (!decide (m < s))) = _ by rw [decide_eq_false (by omega)]; rfl, HB2.out⟩
      · have l1 : ¬ (m : Int) < (s : Int) := by omega
        have dl1 : decide (m < s) = false := decide_eq_false (by omega)
        have dl2 : decide ((m : Int) < (s : Int)) = false := decide_eq_false l1
        obtain ⟨L, hL⟩ : ∃ L, (madeF m xs).length = L := ⟨_, rfl⟩
        obtain ⟨ua, uc, eu, hu1, hu2, _, _⟩ := id hu
        rw [hL] at eu hlen hu1
        subst eu
        have HU := Lib.hid hu
        have HL := Lib.hid hL
        clear hu hL
        have hwm : IntKind.i64.wrap (m : Int) = (m : Int) := by have := HM.out; rw [IntKind.wrap_i64]; omega
        have hml : m * L ≤ 65536 * 4096 := Nat.mul_le_mul HM.out.1 hlen
        obtain ⟨P, hP⟩ : ∃ P, m * L = P := ⟨_, rfl⟩
        rw [hP] at hml
        obtain ⟨D, hD⟩ : ∃ D, P / 2000000 = D := ⟨_, rfl⟩
        obtain ⟨st, hst⟩ : ∃ st : Nat, st = 1 + D := ⟨_, rfl⟩
        have hw3 : IntKind.i64.wrap ((m : Int) * (L : Int)) = (P : Int) := by
          rw [show (m : Int) * (L : Int) = ((m * L : Nat) : Int) by simp, hP, IntKind.wrap_i64]; omega
        have hd3 : (P : Int).tdiv 2000000 = (D : Int) := by rw [← hD]; rfl
        have hw4 : IntKind.i64.wrap (D : Int) = (D : Int) := by rw [IntKind.wrap_i64]; omega
        have hw5 : IntKind.i64.wrap (1 + (D : Int)) = (st : Int) := by rw [IntKind.wrap_i64]; omega
        clear hP hD
        clear hml
        obtain ⟨_, hM2, hM3, _⟩ := made_all (xs := xs) (by rw [HS.out]; exact hs1) hm0
        have HM2 := Lib.hid hM2
        have HM3 := Lib.hid hM3
        have HSm : Hid (sumN xs ≤ m) := by show _ ≤ _; rw [HS.out]; exact hs1
        have HLm : Hid ((madeF m xs).length ≤ 4096) := by show _ ≤ _; rw [HL.out]; exact hlen
        have HST : Hid (1 ≤ st) := by show _ ≤ _; omega
        clear hM2 hM3 hst
        clear hi hs hin
        go_wp2_with fail
        clear hw3 hw4 hw5 hd3
        go_loopw [10, 12, 13, 14] (fun tv wv lv iv wr2 => ∃ (i t0 : Nat) (wb : ByteArray) (lf : Int), i ≤ n + 1 ∧ iv = .int .i64 (i : Int) ∧ tv = .int .i64 (t0 : Int) ∧ wv = .string wb ∧ lv = .int .i64 lf ∧ Hid ((i ≤ n → t0 = sumN (xs.take i)) ∧ (n < i → t0 = m)) ∧ Hid (st = 1 → 1 < lf → findS ((t0 : Int) - 1) (madeF m xs) = (wb, lf)) ∧ Hid (Below w.heap.size w wr2) ∧ Hid (wr2.heap[w.heap.size]? = some (.cells #[.int .i64 q, .int .u64 cp, .bool false, .slice ao n cap] 25 (0, 0))) ∧ Hid (Rs wr2 (.slice ua L uc) (madeF m xs))) (fun _ _ _ iv _ => n + 1 - (intOf iv).toNat)
        case atStart => exact ⟨0, 0, ⟨#[]⟩, 0, by omega, rfl, rfl, rfl, rfl, ⟨fun _ => rfl, fun h => by omega⟩, (fun _ h => by omega), HB1, HY1, HU⟩
        case round =>
          clear HB1 HY1 HU
          obtain ⟨i, t0, wb, lf, hi, rfl, rfl, rfl, rfl, HT0, HPi, HB2, HY2, HU2⟩ := hrel
          have y3 : wr.cell? ⟨w.heap.size, 3, none⟩ = some (.slice ao n cap) := by rw [cell_of_row _ _ _ _ _ _ HY2.out]; rfl
          by_cases hin : i < n
          · have hix : i < xs.length := by rw [HN.out]; exact hin
            have ji : (i : Int) < (n : Int) := by omega
            have ji2 : (i : Int) ≤ (n : Int) := by omega
            have jc : (n : Int) ≤ (cap : Int) := by omega
            obtain ⟨_, _, e', _, _, _, hc⟩ := HR.out.below HB2.out
            simp only [Value.slice.injEq] at e'
            obtain ⟨rfl, _, rfl⟩ := e'
            obtain ⟨b, of, rfl, c0, c1, c2, c3⟩ := hc i hix
            obtain ⟨S, hS⟩ : ∃ S, xs[i].s = S := ⟨_, rfl⟩
            obtain ⟨N, hN⟩ : ∃ N, xs[i].b = N := ⟨_, rfl⟩
            have HT1 : Hid (sumN (xs.take (i + 1)) = t0 + N) := by
              show _ = _
              rw [sumN_next xs i hix, ← HT0.out.1 (by omega), hN]
            have HW : Hid (∀ t : Nat, t0 ≤ t → t < t0 + N → (findS (t : Int) (madeF m xs)).1 = S) := fun t h1 h2 => by
              have h3 := HM2.out i hix (t : Int) (by rw [← HT0.out.1 (by omega)]; omega) (by rw [HT1.out]; omega)
              rw [h3, hS]
            have hNm : t0 + N ≤ m := by
              have h4 := sumN_take xs (i + 1)
              have h5 := HSm.out
              rw [HT1.out] at h4
              omega
            rw [hS] at c1
            rw [hN] at c2
            have wN : IntKind.i64.wrap (N : Int) = (N : Int) := by have := HM.out; rw [IntKind.wrap_i64]; omega
            have wM : IntKind.i64.wrap ((m : Int) - (t0 : Int)) = ((m - t0 : Nat) : Int) := by have := HM.out; rw [IntKind.wrap_i64]; omega
            clear hc hS hN c0 c3
            have HP0 : Hid (st = 1 → 1 < lf → findS ((t0 : Int) - 1) (madeF m xs) = (wb, lf)) := HPi
            clear HPi
            go_wp2_with fail
            go_loopw [10, 12, 13, 17] (fun tv wv lv jv wr3 => ∃ (j t : Nat) (wb : ByteArray) (lf : Int), j ≤ N ∧ Hid (t = t0 + j) ∧ tv = .int .i64 (t : Int) ∧ jv = .int .i64 (j : Int) ∧ wv = .string wb ∧ lv = .int .i64 lf ∧ Hid (st = 1 → 1 < lf → findS ((t : Int) - 1) (madeF m xs) = (wb, lf)) ∧ Hid (Below w.heap.size w wr3) ∧ Hid (wr3.heap[w.heap.size]? = some (.cells #[.int .i64 q, .int .u64 cp, .bool false, .slice (some ⟨b, of, none⟩) n cap] 25 (0, 0))) ∧ Hid (Rs wr3 (.slice ua L uc) (madeF m xs))) (fun _ _ _ jv _ => N - (intOf jv).toNat)
            case atStart => exact ⟨0, t0, wb, lf, Nat.zero_le _, rfl, rfl, rfl, rfl, rfl, HP0, HB2, HY2, HU2⟩
            case round =>
              clear HP0 HB2 HY2 HU2
              obtain ⟨j, t, wb, lf, hj, HTt, rfl, rfl, rfl, rfl, HP, HB3, HY3, HU3⟩ := hrel
              by_cases hjn : j < N
              · have jj : (j : Int) < (N : Int) := by omega
                have wj : IntKind.i64.wrap ((j : Int) + 1) = ((j + 1 : Nat) : Int) := by have := HM.out; rw [IntKind.wrap_i64]; omega
                have htm : t < m := by have := HTt.out; omega
                have wt : IntKind.i64.wrap ((t : Int) + 1) = ((t + 1 : Nat) : Int) := by have := HM.out; have := HTt.out; rw [IntKind.wrap_i64]; omega
                obtain ⟨mr, hf, hr1, hr2, hsd⟩ := sched_law HSm.out hm0 HM.out.1 (HLm.out) htm (HW.out t (by have := HTt.out; omega) (by have := HTt.out; omega))
                have HSd := Lib.hid (hsd wr _ HU3.out)
                have HF := Lib.hid hf
                have ht1 : Hid (t + 1 = t0 + (j + 1)) := by have := HTt.out; show _ = _; omega
                clear htm
                obtain ⟨r, hr⟩ : ∃ r, t % st = r := ⟨_, rfl⟩
                have jr : (t : Int).tmod (st : Int) = (r : Int) := by rw [← hr]; rfl
                have js : (st : Int) ≠ 0 := by have := HST.out; omega
                have jm : ¬ (mr : Int) < 1 := by omega
                have HR1 : Hid (st = 1 → r = 0) := fun e => by rw [e] at hr; omega
                clear hf hsd hr
                by_cases k0 : r = 0
                · subst k0
                  have HPn : Hid (st = 1 → 1 < (mr : Int) → findS (((t + 1 : Nat) : Int) - 1) (madeF m xs) = (S, (mr : Int))) := fun _ _ => by
                    rw [show (((t + 1 : Nat) : Int) - 1) = (t : Int) by omega]
                    exact HF.out
                  by_cases k1 : st = 1
                  · have kb : ((st : Int) == 1) = true := beq_iff_eq.2 (by omega)
                    have K1 := Lib.hid k1
                    clear k1
                    by_cases k2 : 1 < lf
                    · have h9 := HP.out K1.out k2
                      have h10 := find_step (madeF m xs) (t : Int) (by rw [h9]; exact k2)
                      rw [h9, HF.out] at h10
                      simp only [Prod.mk.injEq] at h10
                      obtain ⟨rfl, h11⟩ := h10
                      have wl : IntKind.i64.wrap (lf - 1) = (mr : Int) := by rw [IntKind.wrap_i64]; omega
                      clear HP HF h9 h11
                      go_wp2_with fail
                      refine HSd.out.mono ?_
                      rintro e w4 ⟨rfl, hb4⟩
                      have HB4 : Hid (Below w.heap.size w w4) := HB3.out.trans (hb4.mono HB3.out.size)
                      have HY4 : Hid (w4.heap[w.heap.size]? = some (.cells #[.int .i64 q, .int .u64 cp, .bool false, .slice (some ⟨b, of, none⟩) n cap] 25 (0, 0))) := (hb4.block w.heap.size (Array.getElem?_eq_some_iff.1 HY3.out).1).trans HY3.out
                      have HU4 := Lib.hid (HU3.out.below hb4)
                      clear hb4 HB3 HY3 HU3 HSd
                      go_wp2_with fail
                      go_roundw
                      case rel => exact ⟨j + 1, t + 1, S, (mr : Int), by omega, ht1, rfl, rfl, rfl, rfl, HPn, HB4, HY4, HU4⟩
                      case measure => simp [intOf]; omega
                    · clear HP HF
                      go_wp2_with fail
                      refine HSd.out.mono ?_
                      rintro e w4 ⟨rfl, hb4⟩
                      have HB4 : Hid (Below w.heap.size w w4) := HB3.out.trans (hb4.mono HB3.out.size)
                      have HY4 : Hid (w4.heap[w.heap.size]? = some (.cells #[.int .i64 q, .int .u64 cp, .bool false, .slice (some ⟨b, of, none⟩) n cap] 25 (0, 0))) := (hb4.block w.heap.size (Array.getElem?_eq_some_iff.1 HY3.out).1).trans HY3.out
                      have HU4 := Lib.hid (HU3.out.below hb4)
                      clear hb4 HB3 HY3 HU3 HSd
                      go_wp2_with fail
                      go_roundw
                      case rel => exact ⟨j + 1, t + 1, S, (mr : Int), by omega, ht1, rfl, rfl, rfl, rfl, HPn, HB4, HY4, HU4⟩
                      case measure => simp [intOf]; omega
                  · have j1 : (st : Int) ≠ 1 := by omega
                    clear HP HF
                    go_wp2_with fail
                    refine HSd.out.mono ?_
                    rintro e w4 ⟨rfl, hb4⟩
                    have HB4 : Hid (Below w.heap.size w w4) := HB3.out.trans (hb4.mono HB3.out.size)
                    have HY4 : Hid (w4.heap[w.heap.size]? = some (.cells #[.int .i64 q, .int .u64 cp, .bool false, .slice (some ⟨b, of, none⟩) n cap] 25 (0, 0))) := (hb4.block w.heap.size (Array.getElem?_eq_some_iff.1 HY3.out).1).trans HY3.out
                    have HU4 := Lib.hid (HU3.out.below hb4)
                    clear hb4 HB3 HY3 HU3 HSd
                    go_wp2_with fail
                    go_roundw
                    case rel => exact ⟨j + 1, t + 1, S, (mr : Int), by omega, ht1, rfl, rfl, rfl, rfl, HPn, HB4, HY4, HU4⟩
                    case measure => simp [intOf]; omega
                · have k0' : (r : Int) ≠ 0 := by omega
                  have HPn : Hid (st = 1 → 1 < lf → findS (((t + 1 : Nat) : Int) - 1) (madeF m xs) = (wb, lf)) := fun e => absurd (HR1.out e) k0
                  clear HP HF HSd
                  go_wp2_with fail
                  go_roundw
                  case rel => exact ⟨j + 1, t + 1, wb, lf, by omega, ht1, rfl, rfl, rfl, rfl, HPn, HB3, HY3, HU3⟩
                  case measure => simp [intOf]; omega
              · obtain rfl : j = N := by omega
                have jn : ¬ (j : Int) < (j : Int) := by omega
                have w14 : IntKind.i64.wrap ((i : Int) + 1) = ((i + 1 : Nat) : Int) := by have := HM.out; rw [IntKind.wrap_i64]; omega
                go_wp2_with fail
                go_roundw
                case rel => exact ⟨i + 1, _, wb, lf, by first | omega | (have := HIE.out; omega), rfl, rfl, rfl, rfl, ⟨fun _ => by rw [HT1.out]; exact HTt.out, fun h => by omega⟩, HP, HB3, HY3, HU3⟩
                case measure => simp [intOf]; omega
          · by_cases hie : i = n
            · have ji : ¬ (i : Int) < (n : Int) := by omega
              have ji2 : (i : Int) ≤ (n : Int) := by omega
              have HIE : Hid (i = n) := hie
              have et0 : xs.take i = xs := List.take_of_length_le (by rw [HN.out]; omega)
              have hts : t0 = sumN xs := by rw [HT0.out.1 (by omega), et0]
              obtain ⟨N, hN⟩ : ∃ N, m - t0 = N := ⟨_, rfl⟩
              have hNm : t0 + N ≤ m := by have := HSm.out; omega
              have HNm : Hid (t0 + N = m) := by have := HSm.out; show _ = _; omega
              obtain ⟨S, hS⟩ : ∃ S : ByteArray, S = ⟨#[]⟩ := ⟨_, rfl⟩
              have HW : Hid (∀ t : Nat, t0 ≤ t → t < t0 + N → (findS (t : Int) (madeF m xs)).1 = S) := fun t h1 h2 => by
                rw [hS]
                exact HM3.out (t : Int) (by omega) (by omega)
              have wM : IntKind.i64.wrap ((m : Int) - (t0 : Int)) = (N : Int) := by have := HM.out; rw [IntKind.wrap_i64]; omega
              subst hS
              clear hN hts et0 hie hin
              have HP0 : Hid (st = 1 → 1 < lf → findS ((t0 : Int) - 1) (madeF m xs) = (wb, lf)) := HPi
              clear HPi
              go_wp2_with fail
              go_loopw [10, 12, 13, 17] (fun tv wv lv jv wr3 => ∃ (j t : Nat) (wb : ByteArray) (lf : Int), j ≤ N ∧ Hid (t = t0 + j) ∧ tv = .int .i64 (t : Int) ∧ jv = .int .i64 (j : Int) ∧ wv = .string wb ∧ lv = .int .i64 lf ∧ Hid (st = 1 → 1 < lf → findS ((t : Int) - 1) (madeF m xs) = (wb, lf)) ∧ Hid (Below w.heap.size w wr3) ∧ Hid (wr3.heap[w.heap.size]? = some (.cells #[.int .i64 q, .int .u64 cp, .bool false, .slice ao n cap] 25 (0, 0))) ∧ Hid (Rs wr3 (.slice ua L uc) (madeF m xs))) (fun _ _ _ jv _ => N - (intOf jv).toNat)
              case atStart => exact ⟨0, t0, wb, lf, Nat.zero_le _, rfl, rfl, rfl, rfl, rfl, HP0, HB2, HY2, HU2⟩
              case round =>
                clear HP0 HB2 HY2 HU2
                obtain ⟨j, t, wb, lf, hj, HTt, rfl, rfl, rfl, rfl, HP, HB3, HY3, HU3⟩ := hrel
                by_cases hjn : j < N
                · have jj : (j : Int) < (N : Int) := by omega
                  have wj : IntKind.i64.wrap ((j : Int) + 1) = ((j + 1 : Nat) : Int) := by have := HM.out; rw [IntKind.wrap_i64]; omega
                  have htm : t < m := by have := HTt.out; omega
                  have wt : IntKind.i64.wrap ((t : Int) + 1) = ((t + 1 : Nat) : Int) := by have := HM.out; have := HTt.out; rw [IntKind.wrap_i64]; omega
                  obtain ⟨mr, hf, hr1, hr2, hsd⟩ := sched_law HSm.out hm0 HM.out.1 (HLm.out) htm (HW.out t (by have := HTt.out; omega) (by have := HTt.out; omega))
                  have HSd := Lib.hid (hsd wr _ HU3.out)
                  have HF := Lib.hid hf
                  have ht1 : Hid (t + 1 = t0 + (j + 1)) := by have := HTt.out; show _ = _; omega
                  clear htm
                  obtain ⟨r, hr⟩ : ∃ r, t % st = r := ⟨_, rfl⟩
                  have jr : (t : Int).tmod (st : Int) = (r : Int) := by rw [← hr]; rfl
                  have js : (st : Int) ≠ 0 := by have := HST.out; omega
                  have jm : ¬ (mr : Int) < 1 := by omega
                  have HR1 : Hid (st = 1 → r = 0) := fun e => by rw [e] at hr; omega
                  clear hf hsd hr
                  by_cases k0 : r = 0
                  · subst k0
                    have HPn : Hid (st = 1 → 1 < (mr : Int) → findS (((t + 1 : Nat) : Int) - 1) (madeF m xs) = ((⟨#[]⟩ : ByteArray), (mr : Int))) := fun _ _ => by
                      rw [show (((t + 1 : Nat) : Int) - 1) = (t : Int) by omega]
                      exact HF.out
                    by_cases k1 : st = 1
                    · have kb : ((st : Int) == 1) = true := beq_iff_eq.2 (by omega)
                      have K1 := Lib.hid k1
                      clear k1
                      by_cases k2 : 1 < lf
                      · have h9 := HP.out K1.out k2
                        have h10 := find_step (madeF m xs) (t : Int) (by rw [h9]; exact k2)
                        rw [h9, HF.out] at h10
                        simp only [Prod.mk.injEq] at h10
                        obtain ⟨rfl, h11⟩ := h10
                        have wl : IntKind.i64.wrap (lf - 1) = (mr : Int) := by rw [IntKind.wrap_i64]; omega
                        clear HP HF h9 h11
                        go_wp2_with fail
                        refine HSd.out.mono ?_
                        rintro e w4 ⟨rfl, hb4⟩
                        have HB4 : Hid (Below w.heap.size w w4) := HB3.out.trans (hb4.mono HB3.out.size)
                        have HY4 : Hid (w4.heap[w.heap.size]? = some (.cells #[.int .i64 q, .int .u64 cp, .bool false, .slice ao n cap] 25 (0, 0))) := (hb4.block w.heap.size (Array.getElem?_eq_some_iff.1 HY3.out).1).trans HY3.out
                        have HU4 := Lib.hid (HU3.out.below hb4)
                        clear hb4 HB3 HY3 HU3 HSd
                        go_wp2_with fail
                        go_roundw
                        case rel => exact ⟨j + 1, t + 1, ⟨#[]⟩, (mr : Int), by omega, ht1, rfl, rfl, rfl, rfl, HPn, HB4, HY4, HU4⟩
                        case measure => simp [intOf]; omega
                      · clear HP HF
                        go_wp2_with fail
                        refine HSd.out.mono ?_
                        rintro e w4 ⟨rfl, hb4⟩
                        have HB4 : Hid (Below w.heap.size w w4) := HB3.out.trans (hb4.mono HB3.out.size)
                        have HY4 : Hid (w4.heap[w.heap.size]? = some (.cells #[.int .i64 q, .int .u64 cp, .bool false, .slice ao n cap] 25 (0, 0))) := (hb4.block w.heap.size (Array.getElem?_eq_some_iff.1 HY3.out).1).trans HY3.out
                        have HU4 := Lib.hid (HU3.out.below hb4)
                        clear hb4 HB3 HY3 HU3 HSd
                        go_wp2_with fail
                        go_roundw
                        case rel => exact ⟨j + 1, t + 1, ⟨#[]⟩, (mr : Int), by omega, ht1, rfl, rfl, rfl, rfl, HPn, HB4, HY4, HU4⟩
                        case measure => simp [intOf]; omega
                    · have j1 : (st : Int) ≠ 1 := by omega
                      clear HP HF
                      go_wp2_with fail
                      refine HSd.out.mono ?_
                      rintro e w4 ⟨rfl, hb4⟩
                      have HB4 : Hid (Below w.heap.size w w4) := HB3.out.trans (hb4.mono HB3.out.size)
                      have HY4 : Hid (w4.heap[w.heap.size]? = some (.cells #[.int .i64 q, .int .u64 cp, .bool false, .slice ao n cap] 25 (0, 0))) := (hb4.block w.heap.size (Array.getElem?_eq_some_iff.1 HY3.out).1).trans HY3.out
                      have HU4 := Lib.hid (HU3.out.below hb4)
                      clear hb4 HB3 HY3 HU3 HSd
                      go_wp2_with fail
                      go_roundw
                      case rel => exact ⟨j + 1, t + 1, ⟨#[]⟩, (mr : Int), by omega, ht1, rfl, rfl, rfl, rfl, HPn, HB4, HY4, HU4⟩
                      case measure => simp [intOf]; omega
                  · have k0' : (r : Int) ≠ 0 := by omega
                    have HPn : Hid (st = 1 → 1 < lf → findS (((t + 1 : Nat) : Int) - 1) (madeF m xs) = (wb, lf)) := fun e => absurd (HR1.out e) k0
                    clear HP HF HSd
                    go_wp2_with fail
                    go_roundw
                    case rel => exact ⟨j + 1, t + 1, wb, lf, by omega, ht1, rfl, rfl, rfl, rfl, HPn, HB3, HY3, HU3⟩
                    case measure => simp [intOf]; omega
                · obtain rfl : j = N := by omega
                  have jn : ¬ (j : Int) < (j : Int) := by omega
                  have w14 : IntKind.i64.wrap ((i : Int) + 1) = ((i + 1 : Nat) : Int) := by have := HM.out; rw [IntKind.wrap_i64]; omega
                  go_wp2_with fail
                  go_roundw
                  case rel => exact ⟨i + 1, _, wb, lf, by first | omega | (have := HIE.out; omega), rfl, rfl, rfl, rfl, ⟨fun h => by have := HIE.out; omega, fun _ => HTt.out.trans HNm.out⟩, HP, HB3, HY3, HU3⟩
                  case measure => simp [intOf]; omega
            · have ji2 : ¬ (i : Int) ≤ (n : Int) := by omega
              have htm : t0 = m := HT0.out.2 (by omega)
              subst htm
              go_wp2_with fail
              refine (HK.out _).mono ?_
              rintro e w5 ⟨rfl, hb5⟩
              have HB5 : Hid (Below w.heap.size w w5) := HB2.out.trans (hb5.mono HB2.out.size)
              clear hb5
              go_wp2_with fail
              go_ret
              exact ⟨rfl, HB5.out⟩
end Go.Proofs.Ytaakabmemhfldaa
