/- Bundle: regions, lane (written by parts/gen_bnsec.py). Own work. -/
import Derived.Test.YtinjhgimhboigaaDoorBnTxt
namespace Go.Proofs.YtinjhgimhboigaaDoor
open Go.RowKit Bn
set_option linter.unusedVariables false
set_option linter.unusedSimpArgs false
def gsum : List Gd → Nat
  | [] => 0
  | g :: gs => 31 + g.txt.size + gsum gs
theorem gdS_le (g : Gd) (s : S) : (gdS g s).1.length ≤ s.1.length + 31 + g.txt.size := by
  rw [gdS]
  have := text_len g.txt (zerosS 3 (byteS (g.fill : Int) (longS g.sz (longS g.ad s))))
  rw [zeros_len, byte_len, long_len, long_len, bts_len] at this
  omega
theorem gds_le : ∀ (xs : List Gd) (s : S), (eachS gdS xs s).1.length ≤ s.1.length + gsum xs
  | [], s => Nat.le_refl _
  | x :: xs, s => by
    rw [eachS, gsum]
    have := gds_le xs (gdS x s)
    have := gdS_le x s
    omega
theorem gsum_take : ∀ (xs : List Gd) (i : Nat), gsum (xs.take i) ≤ gsum xs
  | [], i => by simp
  | x :: xs, 0 => by simp [gsum]
  | x :: xs, i + 1 => by
    rw [List.take_succ_cons, gsum, gsum]
    have := gsum_take xs i
    omega
theorem gds_take (xs : List Gd) (s : S) (i : Nat) : (eachS gdS (xs.take i) s).1.length ≤ s.1.length + gsum xs := by
  have := gds_le (xs.take i) s
  have := gsum_take xs i
  omega
section
variable {B kb : Nat} {im : List Value} {o : Option Nat} {en : List Value} {w0 : World} {s0 : S} {w : World}
variable {s : S}
set_option maxRecDepth 100000 in
set_option maxHeartbeats 8000000 in
theorem regionsX (h : Sx B kb im o en w0 s w) {v : Value} {xs : List Gd} (hi : im[5]? = some v) (hr : ∀ W, Fx B w0 W → RowG 4 gdE W v xs) (hok : ∀ x ∈ xs, gdOk x) (hl : s.1.length + 8 + gsum xs + 64 ≤ 270000000000) : Calls Tryd.prog 20 #[.pointer (some ⟨kb, 0, none⟩)] w fun e w' => e = .returned (.tuple #[]) ∧ Sx B kb im o en w0 (eachS gdS xs (manyS xs.length s)) w' := by
  have HR : Hid (∀ W, Fx B w0 W → RowG 4 gdE W v xs) := hr
  have HL : Hid ((manyS xs.length s).1.length + gsum xs + 64 ≤ 270000000000) := show _ ≤ _ by rw [many_len]; exact hl
  have HOk : Hid (∀ x ∈ xs, gdOk x) := hok
  obtain ⟨ao, cap, rfl, h1, h2, _⟩ := hr w h.fr
  have h2' := h2
  unfold maxLen at h2
  have HC := Lib.hid (manyX h (n := xs.length) (by unfold maxLen at h2'; omega) (by omega))
  have HI : Hid (∀ W s', Sx B kb im o en w0 s' W → W.cell? ⟨kb, 5, none⟩ = some (.slice ao xs.length cap)) := fun W s' hW => (St.cell hW 5).trans ((lyC_im hW.him (by decide)).trans hi)
  have c0 := HI.out _ _ h
  obtain ⟨n, hn⟩ : ∃ n, xs.length = n := ⟨_, rfl⟩
  have HN := Lib.hid hn
  rw [hn] at h1 HR HC HI c0 HL ⊢
  clear hn h hl hok hr h2' hi
  obtain ⟨s0, hs0⟩ : ∃ s0, manyS n s = s0 := ⟨_, rfl⟩
  rw [hs0] at HC HL ⊢
  clear hs0
  go_enter Tryd.func20, Tryd.ntmps20
  go_wp2_with fail
  refine HC.out.mono ?_
  rintro e w1 ⟨rfl, hm1⟩
  have c1 := HI.out _ _ hm1
  have H0 : Hid (Sx B kb im o en w0 (eachS gdS (xs.take 0) s0) w1) := Lib.hid hm1
  clear hm1 HC HI c0
  go_wp2_with fail
  go_loopw [18] (fun iv wr => ∃ i : Nat, i ≤ n ∧ iv = .int .i64 (i : Int) ∧ Hid (Sx B kb im o en w0 (eachS gdS (xs.take i) s0) wr)) (fun iv _ => n - (intOf iv).toNat)
  case atStart => exact ⟨0, Nat.zero_le _, rfl, H0⟩
  case round =>
    clear H0
    obtain ⟨i, hi, rfl, HI⟩ := hrel
    by_cases hin : i < n
    · have ji : (i : Int) < (n : Int) := by omega
      have hix : i < xs.length := by rw [HN.out]; exact hin
      have hw1 : IntKind.i64.wrap ((i : Int) + 1) = ((i + 1 : Nat) : Int) := by rw [IntKind.wrap_i64]; omega
      obtain ⟨_, _, e', _, _, hc⟩ := HR.out wr HI.out.fr
      simp only [Value.slice.injEq] at e'
      obtain ⟨rfl, e9, rfl⟩ := e'
      clear e9
      obtain ⟨b, of, rfl, _, hc⟩ := hc i hix
      have c0 := hc 0 (by decide)
      have c1 := hc 1 (by decide)
      have c2 := hc 2 (by decide)
      have c3 := hc 3 (by decide)
      simp only [gdE, List.getElem?_cons_zero, List.getElem?_cons_succ, Nat.add_zero] at c0 c1 c2 c3
      have hok1 := HOk.out xs[i] (List.getElem_mem _)
      have HE : Hid (∀ W, Sx B kb im o en w0 (gdS xs[i] (eachS gdS (xs.take i) s0)) W → Sx B kb im o en w0 (eachS gdS (xs.take (i + 1)) s0) W) := fun W hW => by rw [eachS_take _ _ _ _ hix]; exact hW
      have HLi : Hid ((eachS gdS (xs.take i) s0).1.length + 64 ≤ 270000000000) := show _ ≤ _ by
        have := gds_take xs s0 i
        have := HL.out
        omega
      generalize eachS gdS (xs.take i) s0 = si at HI HE HLi
      generalize xs[i] = x at *
      obtain ⟨xa, xb, xc, xd⟩ := x
      obtain ⟨hx0, hx1, hx2, hx3⟩ := hok1
      clear hc
      have HF0 : Hid (Fx B w0 (wr.alloc (.cells #[.int .u64 (xa : Int), .int .u64 (xb : Int), .int .u8 (xc : Int), .string xd] 51))) := HI.out.fr.trans (Fx.of_below ((Below.refl _ _).alloc (Nat.le_refl _) _))
      have HS0 : Hid (Sx B kb im o en (wr.alloc (.cells #[.int .u64 (xa : Int), .int .u64 (xb : Int), .int .u8 (xc : Int), .string xd] 51)) si (wr.alloc (.cells #[.int .u64 (xa : Int), .int .u64 (xb : Int), .int .u8 (xc : Int), .string xd] 51))) := (St.below HI.out ((Below.refl _ _).alloc (Nat.le_refl _) _)).here
      have HBx : Hid (∀ W, Fx B (wr.alloc (.cells #[.int .u64 (xa : Int), .int .u64 (xb : Int), .int .u8 (xc : Int), .string xd] 51)) W → W.cell? ⟨wr.heap.size, 0, none⟩ = some (.int .u64 (xa : Int)) ∧ W.cell? ⟨wr.heap.size, 1, none⟩ = some (.int .u64 (xb : Int)) ∧ W.cell? ⟨wr.heap.size, 2, none⟩ = some (.int .u8 (xc : Int)) ∧ W.cell? ⟨wr.heap.size, 3, none⟩ = some (.string xd)) := fun W hW => by
        have hb := (hW.block' ⟨_, heap_alloc_new wr _⟩ (by simp) (by decide) (by decide) (by decide)).trans (heap_alloc_new wr _)
        refine ⟨?_, ?_, ?_, ?_⟩ <;> (rw [cell_of_row _ _ _ _ _ _ hb]; rfl)
      go_wp2_with fail
      refine (longX HS0.out (m := xa) hx0 (by (try simp only [byte_len, half_len, none_len, word_len, long_len, zeros_len, flag_len, field_len, many_len, ask_len, bytes_len]); have := HLi.out; omega)).mono ?_
      rintro e w1 ⟨rfl, h1⟩
      obtain ⟨d0, d1, d2, d3⟩ := HBx.out _ h1.fr
      have HS1 := Lib.hid h1
      clear h1 HS0
      go_wp2_with fail
      clear d0 d1 d2 d3
      refine (longX HS1.out (m := xb) hx1 (by (try simp only [byte_len, half_len, none_len, word_len, long_len, zeros_len, flag_len, field_len, many_len, ask_len, bytes_len]); have := HLi.out; omega)).mono ?_
      rintro e w2 ⟨rfl, h2⟩
      obtain ⟨d0, d1, d2, d3⟩ := HBx.out _ h2.fr
      have HS2 := Lib.hid h2
      clear h2 HS1
      go_wp2_with fail
      clear d0 d1 d2 d3
      refine (byteX HS2.out (k := (xc : Int)) ⟨by omega, by omega⟩ (by (try simp only [byte_len, half_len, none_len, word_len, long_len, zeros_len, flag_len, field_len, many_len, ask_len, bytes_len]); have := HLi.out; omega)).mono ?_
      rintro e w3 ⟨rfl, h3⟩
      obtain ⟨d0, d1, d2, d3⟩ := HBx.out _ h3.fr
      have HS3 := Lib.hid h3
      clear h3 HS2
      go_wp2_with fail
      clear d0 d1 d2 d3
      refine (zerosX HS3.out (c := 3) (by (try simp only [byte_len, half_len, none_len, word_len, long_len, zeros_len, flag_len, field_len, many_len, ask_len, bytes_len]); have := HLi.out; omega)).mono ?_
      rintro e w4 ⟨rfl, h4⟩
      obtain ⟨d0, d1, d2, d3⟩ := HBx.out _ h4.fr
      have HS4 := Lib.hid h4
      clear h4 HS3
      go_wp2_with fail
      clear d0 d1 d2 d3
      refine (textX HS4.out (t := xd) hx3 (by (try simp only [byte_len, half_len, none_len, word_len, long_len, zeros_len, flag_len, field_len, many_len, ask_len, bytes_len]); have := HLi.out; omega)).mono ?_
      rintro e w5 ⟨rfl, h5⟩
      have HS5 := Lib.hid h5
      clear h5 HS4
      go_wp2_with fail
      go_roundw
      case rel => exact ⟨i + 1, by omega, rfl, HE.out _ (HS5.out.since HF0.out)⟩
      case measure => simp [intOf]; omega
    · obtain rfl : i = n := by omega
      have ji : ¬ (i : Int) < (i : Int) := by omega
      have HE : Hid (eachS gdS (xs.take i) s0 = eachS gdS xs s0) := show _ = _ by rw [List.take_of_length_le (by rw [HN.out]; exact Nat.le_refl _)]
      rw [HE.out] at HI
      go_wp2_with fail
      go_end0
      exact ⟨rfl, HI.out⟩
set_option maxRecDepth 100000 in
set_option maxHeartbeats 8000000 in
theorem laneX (h : Sx B kb im o en w0 s w) {v : Value} {xs : List (Int × Int)} (hr : ∀ W, Fx B w0 W → RowG 2 stE W v xs) (hok : ∀ x ∈ xs, stOk x) (hl : s.1.length + 8 + 8 * xs.length ≤ 274877906944) : Calls Tryd.prog 46 #[.pointer (some ⟨kb, 0, none⟩), v] w fun e w' => e = .returned (.tuple #[]) ∧ Sx B kb im o en w0 (eachS stS xs (manyS xs.length s)) w' := by
  have HR : Hid (∀ W, Fx B w0 W → RowG 2 stE W v xs) := hr
  have HL : Hid ((manyS xs.length s).1.length + 8 * xs.length ≤ 274877906944) := show _ ≤ _ by rw [many_len]; exact hl
  have HOk : Hid (∀ x ∈ xs, stOk x) := hok
  obtain ⟨ao, cap, rfl, h1, h2, _⟩ := hr w h.fr
  have h2' := h2
  unfold maxLen at h2
  have HC := Lib.hid (manyX h (n := xs.length) (by unfold maxLen at h2'; omega) (by omega))
  obtain ⟨n, hn⟩ : ∃ n, xs.length = n := ⟨_, rfl⟩
  have HN := Lib.hid hn
  rw [hn] at h1 HR HC HL ⊢
  clear hn h hl hok hr h2'
  obtain ⟨s0, hs0⟩ : ∃ s0, manyS n s = s0 := ⟨_, rfl⟩
  rw [hs0] at HC HL ⊢
  clear hs0
  go_enter Tryd.func46, Tryd.ntmps46
  go_wp2_with fail
  refine HC.out.mono ?_
  rintro e w1 ⟨rfl, hm1⟩
  have H0 : Hid (Sx B kb im o en w0 (eachS stS (xs.take 0) s0) w1) := Lib.hid hm1
  clear hm1 HC
  go_wp2_with fail
  go_loopw [12] (fun iv wr => ∃ i : Nat, i ≤ n ∧ iv = .int .i64 (i : Int) ∧ Hid (Sx B kb im o en w0 (eachS stS (xs.take i) s0) wr)) (fun iv _ => n - (intOf iv).toNat)
  case atStart => exact ⟨0, Nat.zero_le _, rfl, H0⟩
  case round =>
    clear H0
    obtain ⟨i, hi, rfl, HI⟩ := hrel
    by_cases hin : i < n
    · have ji : (i : Int) < (n : Int) := by omega
      have hix : i < xs.length := by rw [HN.out]; exact hin
      have hw1 : IntKind.i64.wrap ((i : Int) + 1) = ((i + 1 : Nat) : Int) := by rw [IntKind.wrap_i64]; omega
      obtain ⟨_, _, e', _, _, hc⟩ := HR.out wr HI.out.fr
      simp only [Value.slice.injEq] at e'
      obtain ⟨rfl, e9, rfl⟩ := e'
      clear e9
      obtain ⟨b, of, rfl, _, hc⟩ := hc i hix
      have c0 := hc 0 (by decide)
      have c1 := hc 1 (by decide)
      simp only [stE, List.getElem?_cons_zero, List.getElem?_cons_succ, Nat.add_zero] at c0 c1
      have hok1 := HOk.out xs[i] (List.getElem_mem _)
      have HE : Hid (∀ W, Sx B kb im o en w0 (stS xs[i] (eachS stS (xs.take i) s0)) W → Sx B kb im o en w0 (eachS stS (xs.take (i + 1)) s0) W) := fun W hW => by rw [eachS_take _ _ _ _ hix]; exact hW
      have HLi : Hid ((eachS stS (xs.take i) s0).1.length + 8 ≤ 274877906944) := show _ ≤ _ by
        rw [each_len stS_len, List.length_take]
        have := HL.out
        omega
      generalize eachS stS (xs.take i) s0 = si at HI HE HLi
      generalize xs[i] = x at *
      obtain ⟨xa, xb⟩ := x
      obtain ⟨hx0, hx1⟩ := hok1
      clear hc
      have HF0 : Hid (Fx B w0 (wr.alloc (.cells #[.int .i64 xa, .int .i64 xb] 53))) := HI.out.fr.trans (Fx.of_below ((Below.refl _ _).alloc (Nat.le_refl _) _))
      have HS0 : Hid (Sx B kb im o en (wr.alloc (.cells #[.int .i64 xa, .int .i64 xb] 53)) si (wr.alloc (.cells #[.int .i64 xa, .int .i64 xb] 53))) := (St.below HI.out ((Below.refl _ _).alloc (Nat.le_refl _) _)).here
      have HBx : Hid (∀ W, Fx B (wr.alloc (.cells #[.int .i64 xa, .int .i64 xb] 53)) W → W.cell? ⟨wr.heap.size, 0, none⟩ = some (.int .i64 xa) ∧ W.cell? ⟨wr.heap.size, 1, none⟩ = some (.int .i64 xb)) := fun W hW => by
        have hb := (hW.block' ⟨_, heap_alloc_new wr _⟩ (by simp) (by decide) (by decide) (by decide)).trans (heap_alloc_new wr _)
        refine ⟨?_, ?_⟩ <;> (rw [cell_of_row _ _ _ _ _ _ hb]; rfl)
      go_wp2_with fail
      refine (noneX HS0.out (k := xa) hx0 (by (try simp only [byte_len, half_len, none_len, word_len, long_len, zeros_len, flag_len, field_len, many_len, ask_len, bytes_len]); have := HLi.out; omega)).mono ?_
      rintro e w1 ⟨rfl, h1⟩
      obtain ⟨d0, d1⟩ := HBx.out _ h1.fr
      have HS1 := Lib.hid h1
      clear h1 HS0
      go_wp2_with fail
      clear d0 d1
      refine (zerosX HS1.out (c := 2) (by (try simp only [byte_len, half_len, none_len, word_len, long_len, zeros_len, flag_len, field_len, many_len, ask_len, bytes_len]); have := HLi.out; omega)).mono ?_
      rintro e w2 ⟨rfl, h2⟩
      obtain ⟨d0, d1⟩ := HBx.out _ h2.fr
      have HS2 := Lib.hid h2
      clear h2 HS1
      go_wp2_with fail
      clear d0 d1
      refine (wordX HS2.out (k := xb) hx1 (by (try simp only [byte_len, half_len, none_len, word_len, long_len, zeros_len, flag_len, field_len, many_len, ask_len, bytes_len]); have := HLi.out; omega)).mono ?_
      rintro e w3 ⟨rfl, h3⟩
      have HS3 := Lib.hid h3
      clear h3 HS2
      go_wp2_with fail
      go_roundw
      case rel => exact ⟨i + 1, by omega, rfl, HE.out _ (HS3.out.since HF0.out)⟩
      case measure => simp [intOf]; omega
    · obtain rfl : i = n := by omega
      have ji : ¬ (i : Int) < (i : Int) := by omega
      have HE : Hid (eachS stS (xs.take i) s0 = eachS stS xs s0) := show _ = _ by rw [List.take_of_length_le (by rw [HN.out]; exact Nat.le_refl _)]
      rw [HE.out] at HI
      go_wp2_with fail
      go_end0
      exact ⟨rfl, HI.out⟩
end
end Go.Proofs.YtinjhgimhboigaaDoor
