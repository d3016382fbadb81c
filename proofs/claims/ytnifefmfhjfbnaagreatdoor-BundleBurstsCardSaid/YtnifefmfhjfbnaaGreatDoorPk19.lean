import Derived.Test.YtnifefmfhjfbnaaGreatDoorPk18
/- Bundle: regions, lane (written by parts/gen_bnsec.py). Own work. -/
namespace Go.Proofs.YtnifefmfhjfbnaaGreatDoor
open Go.RowKit Bn
set_option linter.unusedVariables false
set_option linter.unusedSimpArgs false
def gsum : List Gd → Nat
 | [] => 0
 | g :: gs => 31 + g.txt.size + gsum gs
theorem gdS_le (g : Gd) (s : S) : (gdS g s).1.length ≤ s.1.length + 31 + g.txt.size := by
 rw [gdS]
 have := text_len g.txt (zerosS 3 (byteS (g.fill : Int) (longS g.sz (longS g.ad s))))
 rw [zeros_len, byte_len, long_len, long_len, bts_len] at this
 omega
theorem gds_le : ∀ (xs : List Gd) (s : S), (eachS gdS xs s).1.length ≤ s.1.length + gsum xs
 | [], s => Nat.le_refl _
 | x :: xs, s => by
  rw [eachS, gsum]
  have := gds_le xs (gdS x s)
  have := gdS_le x s
  omega
theorem gsum_take : ∀ (xs : List Gd) (i : Nat), gsum (xs.take i) ≤ gsum xs
 | [], i => by simp
 | x :: xs, 0 => by simp [gsum]
 | x :: xs, i + 1 => by
  rw [List.take_succ_cons, gsum, gsum]
  have := gsum_take xs i
  omega
theorem gds_take (xs : List Gd) (s : S) (i : Nat) : (eachS gdS (xs.take i) s).1.length ≤ s.1.length + gsum xs := by
 have := gds_le (xs.take i) s
 have := gsum_take xs i
 omega
section
variable {B kb : Nat} {im : List Value} {o : Option Nat} {en : List Value} {w0 : World} {s0 : S} {w : World}
variable {s : S}
set_option maxRecDepth 100000 in
set_option maxHeartbeats 8000000 in
theorem regionsX (h : Sx B kb im o en w0 s w) {v : Value} {xs : List Gd} (hi : im[5]? = some v) (hr : ∀ W, Fx B w0 W → RowG 4 gdE W v xs) (hok : ∀ x ∈ xs, gdOk x) (hl : s.1.length + 8 + gsum xs + 64 ≤ 270000000000) : Calls Tryz.prog 30 #[.pointer (some ⟨kb, 0, none⟩)] w fun e w' => e = .returned (.tuple #[]) ∧ Sx B kb im o en w0 (eachS gdS xs (manyS xs.length s)) w' := by
 have HR : Hid (∀ W, Fx B w0 W → RowG 4 gdE W v xs) := hr
 have HL : Hid ((manyS xs.length s).1.length + gsum xs + 64 ≤ 270000000000) := show _ ≤ _ by rw [many_len]; exact hl
 have HOk : Hid (∀ x ∈ xs, gdOk x) := hok
 obtain ⟨ao, cap, rfl, h1, h2, _⟩ := hr w h.fr
 have h2' := h2
 unfold maxLen at h2
 have HC := Lib.hid (manyX h (n := xs.length) (by unfold maxLen at h2'; omega) (by omega))
 have HI : Hid (∀ W s', Sx B kb im o en w0 s' W → W.cell? ⟨kb, 5, none⟩ = some (.slice ao xs.length cap)) := fun W s' hW => (St.cell hW 5).trans ((lyC_im hW.him (by decide)).trans hi)
 have c0 := HI.out _ _ h
 obtain ⟨n, hn⟩ : ∃ n, xs.length = n := ⟨_, rfl⟩
 have HN := Lib.hid hn
 rw [hn] at h1 HR HC HI c0 HL ⊢
 clear hn h hl hok hr h2' hi
 obtain ⟨s0, hs0⟩ : ∃ s0, manyS n s = s0 := ⟨_, rfl⟩
 rw [hs0] at HC HL ⊢
 clear hs0
 go_enter Tryz.func30, Tryz.ntmps30
 go_wp2_with fail
 refine HC.out.mono ?_
 rintro e w1 ⟨rfl, hm1⟩
 have c1 := HI.out _ _ hm1
 have H0 : Hid (Sx B kb im o en w0 (eachS gdS (xs.take 0) s0) w1) := Lib.hid hm1
 clear hm1 HC HI c0
 go_wp2_with fail
 go_loopw [18] (fun iv wr => ∃ i : Nat, i ≤ n ∧ iv = .int .i64 (i : Int) ∧ Hid (Sx B kb im o en w0 (eachS gdS (xs.take i) s0) wr)) (fun iv _ => n - (intOf iv).toNat)
 case atStart => exact ⟨0, Nat.zero_le _, rfl, H0⟩
 case round =>
  clear H0
  obtain ⟨i, hi, rfl, HI⟩ := hrel
  by_cases hin : i < n
  ·have ji : (i : Int) < (n : Int) := by omega
   have hix : i < xs.length := by rw [HN.out]; exact hin
   have hw1 : IntKind.i64.wrap ((i : Int) + 1) = ((i + 1 : Nat) : Int) := by rw [IntKind.wrap_i64]; omega
   obtain ⟨_, _, e', _, _, hc⟩ := HR.out wr HI.out.fr
   simp only [Value.slice.injEq] at e'
   obtain ⟨rfl, e9, rfl⟩ := e'
   clear e9
   obtain ⟨b, of, rfl, _, hc⟩ := hc i hix
   have c0 := hc 0 (by decide)
   have c1 := hc 1 (by decide)
   have c2 := hc 2 (by decide)
   have c3 := hc 3 (by decide)
   simp only [gdE, List.getElem?_cons_zero, List.getElem?_cons_succ, Nat.add_zero] at c0 c1 c2 c3
   have hok1 := HOk.out xs[i] (List.getElem_mem _)
   have HE : Hid (∀ W, Sx B kb im o en w0 (gdS xs[i] (eachS gdS (xs.take i) s0)) W → Sx B kb im o en w0 (eachS gdS (xs.take (i + 1)) s0) W) := fun W hW => by rw [eachS_take _ _ _ _ hix]; exact hW
   have HLi : Hid ((eachS gdS (xs.take i) s0).1.length + 64 ≤ 270000000000) := show _ ≤ _ by
    have := gds_take xs s0 i
    have := HL.out
    omega
   generalize eachS gdS (xs.take i) s0 = si at HI HE HLi
   generalize xs[i] = x at *
   obtain ⟨xa, xb, xc, xd⟩ := x
   obtain ⟨hx0, hx1, hx2, hx3⟩ := hok1
   clear hc
   have HF0 : Hid (Fx B w0 (wr.alloc (.cells #[.int .u64 (xa : Int), .int .u64 (xb : Int), .int .u8 (xc : Int), .string xd] 75))) := HI.out.fr.trans (Fx.of_below ((Below.refl _ _).alloc (Nat.le_refl _) _))
   have HS0 : Hid (Sx B kb im o en (wr.alloc (.cells #[.int .u64 (xa : Int), .int .u64 (xb : Int), .int .u8 (xc : Int), .string xd] 75)) si (wr.alloc (.cells #[.int .u64 (xa : Int), .int .u64 (xb : Int), .int .u8 (xc : Int), .string xd] 75))) := (St.below HI.out ((Below.refl _ _).alloc (Nat.le_refl _) _)).here
   have HBx : Hid (∀ W, Fx B (wr.alloc (.cells #[.int .u64 (xa : Int), .int .u64 (xb : Int), .int .u8 (xc : Int), .string xd] 75)) W → W.cell? ⟨wr.heap.size, 0, none⟩ = some (.int .u64 (xa : Int)) ∧ W.cell? ⟨wr.heap.size, 1, none⟩ = some (.int .u64 (xb : Int)) ∧ W.cell? ⟨wr.heap.size, 2, none⟩ = some (.int .u8 (xc : Int)) ∧ W.cell? ⟨wr.heap.size, 3, none⟩ = some (.string xd)) := fun W hW => by
    have hb := (hW.block' ⟨_, heap_alloc_new wr _⟩ (by simp) (by decide) (by decide) (by decide)).trans (heap_alloc_new wr _)
    refine ⟨?_, ?_, ?_, ?_⟩ <;> (rw [cell_of_row _ _ _ _ _ _ hb]; rfl)
   go_wp2_with fail
   refine (longX HS0.out (m := xa) hx0 (by (try simp only [byte_len, half_len, none_len, word_len, long_len, zeros_len, flag_len, field_len, many_len, ask_len, bytes_len]); have := HLi.out; omega)).mono ?_
   rintro e w1 ⟨rfl, h1⟩
   obtain ⟨d0, d1, d2, d3⟩ := HBx.out _ h1.fr
   have HS1 := Lib.hid h1
   clear h1 HS0
   go_wp2_with fail
   clear d0 d1 d2 d3
   refine (longX HS1.out (m := xb) hx1 (by (try simp only [byte_len, half_len, none_len, word_len, long_len, zeros_len, flag_len, field_len, many_len, ask_len, bytes_len]); have := HLi.out; omega)).mono ?_
   rintro e w2 ⟨rfl, h2⟩
   obtain ⟨d0, d1, d2, d3⟩ := HBx.out _ h2.fr
   have HS2 := Lib.hid h2
   clear h2 HS1
   go_wp2_with fail
   clear d0 d1 d2 d3
   refine (byteX HS2.out (k := (xc : Int)) ⟨by omega, by omega⟩ (by (try simp only [byte_len, half_len, none_len, word_len, long_len, zeros_len, flag_len, field_len, many_len, ask_len, bytes_len]); have := HLi.out; omega)).mono ?_
   rintro e w3 ⟨rfl, h3⟩
   obtain ⟨d0, d1, d2, d3⟩ := HBx.out _ h3.fr
   have HS3 := Lib.hid h3
   clear h3 HS2
   go_wp2_with fail
   clear d0 d1 d2 d3
   refine (zerosX HS3.out (c := 3) (by (try simp only [byte_len, half_len, none_len, word_len, long_len, zeros_len, flag_len, field_len, many_len, ask_len, bytes_len]); have := HLi.out; omega)).mono ?_
   rintro e w4 ⟨rfl, h4⟩
   obtain ⟨d0, d1, d2, d3⟩ := HBx.out _ h4.fr
   have HS4 := Lib.hid h4
   clear h4 HS3
   go_wp2_with fail
   clear d0 d1 d2 d3
   refine (textX HS4.out (t := xd) hx3 (by (try simp only [byte_len, half_len, none_len, word_len, long_len, zeros_len, flag_len, field_len, many_len, ask_len, bytes_len]); have := HLi.out; omega)).mono ?_
   rintro e w5 ⟨rfl, h5⟩
   have HS5 := Lib.hid h5
   clear h5 HS4
   go_wp2_with fail
   go_roundw
   case rel => exact ⟨i + 1, by omega, rfl, HE.out _ (HS5.out.since HF0.out)⟩
   case measure => simp [intOf]; omega
  ·obtain rfl : i = n := by omega
   have ji : ¬ (i : Int) < (i : Int) := by omega
   have HE : Hid (eachS gdS (xs.take i) s0 = eachS gdS xs s0) := show _ = _ by rw [List.take_of_length_le (by rw [HN.out]; exact Nat.le_refl _)]
   rw [HE.out] at HI
   go_wp2_with fail
   go_end0
   exact ⟨rfl, HI.out⟩
set_option maxRecDepth 100000 in
set_option maxHeartbeats 8000000 in
theorem laneX (h : Sx B kb im o en w0 s w) {v : Value} {xs : List (Int × Int)} (hr : ∀ W, Fx B w0 W → RowG 2 stE W v xs) (hok : ∀ x ∈ xs, stOk x) (hl : s.1.length + 8 + 8 * xs.length ≤ 274877906944) : Calls Tryz.prog 69 #[.pointer (some ⟨kb, 0, none⟩), v] w fun e w' => e = .returned (.tuple #[]) ∧ Sx B kb im o en w0 (eachS stS xs (manyS xs.length s)) w' := by
 have HR : Hid (∀ W, Fx B w0 W → RowG 2 stE W v xs) := hr
 have HL : Hid ((manyS xs.length s).1.length + 8 * xs.length ≤ 274877906944) := show _ ≤ _ by rw [many_len]; exact hl
 have HOk : Hid (∀ x ∈ xs, stOk x) := hok
 obtain ⟨ao, cap, rfl, h1, h2, _⟩ := hr w h.fr
 have h2' := h2
 unfold maxLen at h2
 have HC := Lib.hid (manyX h (n := xs.length) (by unfold maxLen at h2'; omega) (by omega))
 obtain ⟨n, hn⟩ : ∃ n, xs.length = n := ⟨_, rfl⟩
 have HN := Lib.hid hn
 rw [hn] at h1 HR HC HL ⊢
 clear hn h hl hok hr h2'
 obtain ⟨s0, hs0⟩ : ∃ s0, manyS n s = s0 := ⟨_, rfl⟩
 rw [hs0] at HC HL ⊢
 clear hs0
 go_enter Tryz.func69, Tryz.ntmps69
 go_wp2_with fail
 refine HC.out.mono ?_
 rintro e w1 ⟨rfl, hm1⟩
 have H0 : Hid (Sx B kb im o en w0 (eachS stS (xs.take 0) s0) w1) := Lib.hid hm1
 clear hm1 HC
 go_wp2_with fail
 go_loopw [12] (fun iv wr => ∃ i : Nat, i ≤ n ∧ iv = .int .i64 (i : Int) ∧ Hid (Sx B kb im o en w0 (eachS stS (xs.take i) s0) wr)) (fun iv _ => n - (intOf iv).toNat)
 case atStart => exact ⟨0, Nat.zero_le _, rfl, H0⟩
 case round =>
  clear H0
  obtain ⟨i, hi, rfl, HI⟩ := hrel
  by_cases hin : i < n
  ·have ji : (i : Int) < (n : Int) := by omega
   have hix : i < xs.length := by rw [HN.out]; exact hin
   have hw1 : IntKind.i64.wrap ((i : Int) + 1) = ((i + 1 : Nat) : Int) := by rw [IntKind.wrap_i64]; omega
   obtain ⟨_, _, e', _, _, hc⟩ := HR.out wr HI.out.fr
   simp only [Value.slice.injEq] at e'
   obtain ⟨rfl, e9, rfl⟩ := e'
   clear e9
   obtain ⟨b, of, rfl, _, hc⟩ := hc i hix
   have c0 := hc 0 (by decide)
   have c1 := hc 1 (by decide)
   simp only [stE, List.getElem?_cons_zero, List.getElem?_cons_succ, Nat.add_zero] at c0 c1
   have hok1 := HOk.out xs[i] (List.getElem_mem _)
   have HE : Hid (∀ W, Sx B kb im o en w0 (stS xs[i] (eachS stS (xs.take i) s0)) W → Sx B kb im o en w0 (eachS stS (xs.take (i + 1)) s0) W) := fun W hW => by rw [eachS_take _ _ _ _ hix]; exact hW
   have HLi : Hid ((eachS stS (xs.take i) s0).1.length + 8 ≤ 274877906944) := show _ ≤ _ by
    rw [each_len stS_len, List.length_take]
    have := HL.out
    omega
   generalize eachS stS (xs.take i) s0 = si at HI HE HLi
   generalize xs[i] = x at *
   obtain ⟨xa, xb⟩ := x
   obtain ⟨hx0, hx1⟩ := hok1
   clear hc
   have HF0 : Hid (Fx B w0 (wr.alloc (.cells #[.int .i64 xa, .int .i64 xb] 83))) := HI.out.fr.trans (Fx.of_below ((Below.refl _ _).alloc (Nat.le_refl _) _))
   have HS0 : Hid (Sx B kb im o en (wr.alloc (.cells #[.int .i64 xa, .int .i64 xb] 83)) si (wr.alloc (.cells #[.int .i64 xa, .int .i64 xb] 83))) := (St.below HI.out ((Below.refl _ _).alloc (Nat.le_refl _) _)).here
   have HBx : Hid (∀ W, Fx B (wr.alloc (.cells #[.int .i64 xa, .int .i64 xb] 83)) W → W.cell? ⟨wr.heap.size, 0, none⟩ = some (.int .i64 xa) ∧ W.cell? ⟨wr.heap.size, 1, none⟩ = some (.int .i64 xb)) := fun W hW => by
    have hb := (hW.block' ⟨_, heap_alloc_new wr _⟩ (by simp) (by decide) (by decide) (by decide)).trans (heap_alloc_new wr _)
    refine ⟨?_, ?_⟩ <;> (rw [cell_of_row _ _ _ _ _ _ hb]; rfl)
   go_wp2_with fail
   refine (noneX HS0.out (k := xa) hx0 (by (try simp only [byte_len, half_len, none_len, word_len, long_len, zeros_len, flag_len, field_len, many_len, ask_len, bytes_len]); have := HLi.out; omega)).mono ?_
   rintro e w1 ⟨rfl, h1⟩
   obtain ⟨d0, d1⟩ := HBx.out _ h1.fr
   have HS1 := Lib.hid h1
   clear h1 HS0
   go_wp2_with fail
   clear d0 d1
   refine (zerosX HS1.out (c := 2) (by (try simp only [byte_len, half_len, none_len, word_len, long_len, zeros_len, flag_len, field_len, many_len, ask_len, bytes_len]); have := HLi.out; omega)).mono ?_
   rintro e w2 ⟨rfl, h2⟩
   obtain ⟨d0, d1⟩ := HBx.out _ h2.fr
   have HS2 := Lib.hid h2
   clear h2 HS1
   go_wp2_with fail
   clear d0 d1
   refine (wordX HS2.out (k := xb) hx1 (by (try simp only [byte_len, half_len, none_len, word_len, long_len, zeros_len, flag_len, field_len, many_len, ask_len, bytes_len]); have := HLi.out; omega)).mono ?_
   rintro e w3 ⟨rfl, h3⟩
   have HS3 := Lib.hid h3
   clear h3 HS2
   go_wp2_with fail
   go_roundw
   case rel => exact ⟨i + 1, by omega, rfl, HE.out _ (HS3.out.since HF0.out)⟩
   case measure => simp [intOf]; omega
  ·obtain rfl : i = n := by omega
   have ji : ¬ (i : Int) < (i : Int) := by omega
   have HE : Hid (eachS stS (xs.take i) s0 = eachS stS xs s0) := show _ = _ by rw [List.take_of_length_le (by rw [HN.out]; exact Nat.le_refl _)]
   rw [HE.out] at HI
   go_wp2_with fail
   go_end0
   exact ⟨rfl, HI.out⟩
end
end Go.Proofs.YtnifefmfhjfbnaaGreatDoor
/- Bundle: room, bus, ports. Own work. -/
namespace Go.Proofs.YtnifefmfhjfbnaaGreatDoor
open Go.RowKit Bn
set_option linter.unusedVariables false
set_option linter.unusedSimpArgs false
section
variable {B kb : Nat} {im : List Value} {o : Option Nat} {en : List Value} {w0 : World} {s : S} {w : World}
set_option maxRecDepth 100000 in
set_option maxHeartbeats 4000000 in
theorem roomX (h : Sx B kb im o en w0 s w) {base : Nat} (hi : im[0]? = some (.int .u64 (base : Int))) (hb : base ≤ 18446744073709551615) (hl : s.1.length + 160 ≤ 270000000000) : Calls Tryz.prog 26 #[.pointer (some ⟨kb, 0, none⟩)] w fun e w' => e = .returned (.tuple #[]) ∧ Sx B kb im o en w0 (zerosS 160 (fieldS (decide (base % 4096 = 0)) s)) w' := by
 have c0 : w.cell? ⟨kb, 0, none⟩ = some (.int .u64 (base : Int)) := (St.cell h 0).trans ((lyC_im h.him (by decide)).trans hi)
 have HC := Lib.hid (fieldX h (decide (base % 4096 = 0)))
 have HL : Hid (s.1.length + 160 ≤ 270000000000) := hl
 have hr : Int.tmod (base : Int) 4096 = ((base % 4096 : Nat) : Int) := rfl
 obtain ⟨q, hq⟩ : ∃ q, base % 4096 = q := ⟨_, rfl⟩
 have hd : ((q : Int) == 0) = decide (q = 0) := by
  by_cases h : q = 0
  ·rw [decide_eq_true h, h]; rfl
  ·rw [decide_eq_false h]; simp [h]
 rw [hq] at HC hr ⊢
 clear h hl hi hq
 obtain ⟨bb, hbb⟩ : ∃ bb, decide (q = 0) = bb := ⟨_, rfl⟩
 rw [hbb] at HC hd ⊢
 clear hbb
 go_enter Tryz.func26, Tryz.ntmps26
 go_wp2_with fail
 refine HC.out.mono ?_
 rintro e w1 ⟨rfl, h1⟩
 have HC1 := Lib.hid (zerosX h1 (c := 160) (by rw [field_len]; have := HL.out; omega))
 clear h1 HC
 go_wp2_with fail
 refine HC1.out.mono ?_
 rintro e w2 ⟨rfl, h2⟩
 have H2 := Lib.hid h2
 clear h2 HC1
 go_wp2_with fail
 go_end0
 exact ⟨rfl, H2.out⟩
set_option maxRecDepth 100000 in
set_option maxHeartbeats 4000000 in
theorem busX (h : Sx B kb im o en w0 s w) {rv dv : Value} {rs ds : List Rg} (hi1 : im[1]? = some rv) (hi2 : im[2]? = some dv) (hr : ∀ W, Fx B w0 W → RowG 2 rgE W rv rs) (hd : ∀ W, Fx B w0 W → RowG 2 rgE W dv ds) (ho1 : ∀ x ∈ rs, rgOk x) (ho2 : ∀ x ∈ ds, rgOk x) (hl : s.1.length + 8 + 16 * rs.length + 16 * ds.length ≤ 274877906944) : Calls Tryz.prog 27 #[.pointer (some ⟨kb, 0, none⟩)] w fun e w' => e = .returned (.tuple #[]) ∧ Sx B kb im o en w0 (eachS rangeS ds (eachS rangeS rs (zerosS 4 (halfS (ds.length : Int) (halfS (rs.length : Int) s))))) w' := by
 have HL : Hid (s.1.length + 8 + 16 * rs.length + 16 * ds.length ≤ 274877906944) := hl
 have c1 : w.cell? ⟨kb, 1, none⟩ = some rv := (St.cell h 1).trans ((lyC_im h.him (by decide)).trans hi1)
 have c2 : w.cell? ⟨kb, 2, none⟩ = some dv := (St.cell h 2).trans ((lyC_im h.him (by decide)).trans hi2)
 obtain ⟨ao, cap, rfl, q1, q2, _⟩ := hr w h.fr
 obtain ⟨bo, bap, rfl, p1, p2, _⟩ := hd w h.fr
 unfold maxLen at q2 p2
 have HF0 : Hid (Fx B w0 (w.alloc (.cells #[.slice ao rs.length cap, .slice bo ds.length bap] 29))) := h.fr.trans (Fx.of_below ((Below.refl _ _).alloc (Nat.le_refl _) _))
 have HS0 : Hid (Sx B kb im o en (w.alloc (.cells #[.slice ao rs.length cap, .slice bo ds.length bap] 29)) s (w.alloc (.cells #[.slice ao rs.length cap, .slice bo ds.length bap] 29))) := (St.below h ((Below.refl _ _).alloc (Nat.le_refl _) _)).here
 have HBx : Hid (∀ W, Fx B (w.alloc (.cells #[.slice ao rs.length cap, .slice bo ds.length bap] 29)) W → W.cell? ⟨w.heap.size, 0, none⟩ = some (.slice ao rs.length cap) ∧ W.cell? ⟨w.heap.size, 1, none⟩ = some (.slice bo ds.length bap)) := fun W hW => by
  have hb := (hW.block' ⟨_, heap_alloc_new w _⟩ (by simp) (by decide) (by decide) (by decide)).trans (heap_alloc_new w _)
  refine ⟨?_, ?_⟩ <;> (rw [cell_of_row _ _ _ _ _ _ hb]; rfl)
 have HR1 : Hid (∀ W, Fx B (w.alloc (.cells #[.slice ao rs.length cap, .slice bo ds.length bap] 29)) W → RowG 2 rgE W (.slice ao rs.length cap) rs) := fun W hW => hr W (HF0.out.trans hW)
 have HR2 : Hid (∀ W, Fx B (w.alloc (.cells #[.slice ao rs.length cap, .slice bo ds.length bap] 29)) W → RowG 2 rgE W (.slice bo ds.length bap) ds) := fun W hW => hd W (HF0.out.trans hW)
 have HO1 : Hid (∀ x ∈ rs, rgOk x) := ho1
 have HO2 : Hid (∀ x ∈ ds, rgOk x) := ho2
 clear h hl hi1 hi2 hr hd ho1 ho2
 obtain ⟨n, hn⟩ : ∃ n, rs.length = n := ⟨_, rfl⟩
 obtain ⟨m, hm⟩ : ∃ m, ds.length = m := ⟨_, rfl⟩
 have HN := Lib.hid hn
 have HM := Lib.hid hm
 rw [hn, hm] at HF0 HS0 HBx HR1 HR2
 rw [hn] at HL q1 c1
 rw [hm] at HL p1 c2
 rw [hn, hm]
 clear hn hm
 go_enter Tryz.func27, Tryz.ntmps27
 go_wp2_with fail
 obtain ⟨d0, d1⟩ := HBx.out _ (Fx.refl _ _)
 refine (halfX HS0.out (k := (n : Int)) ⟨by omega, by omega⟩ (by have := HL.out; omega)).mono ?_
 rintro e w1 ⟨rfl, h1⟩
 have H1 := Lib.hid h1
 clear d0 d1
 obtain ⟨d0, d1⟩ := HBx.out _ h1.fr
 clear h1 HS0
 go_wp2_with fail
 refine (halfX H1.out (k := (m : Int)) ⟨by omega, by omega⟩ (by rw [half_len]; have := HL.out; omega)).mono ?_
 rintro e w2 ⟨rfl, h2⟩
 have H2 := Lib.hid h2
 clear d0 d1
 obtain ⟨d0, d1⟩ := HBx.out _ h2.fr
 clear h2 H1
 go_wp2_with fail
 refine (zerosX H2.out (c := 4) (by rw [half_len, half_len]; have := HL.out; omega)).mono ?_
 rintro e w3 ⟨rfl, h3⟩
 have H3 := Lib.hid h3
 clear d0 d1
 obtain ⟨d0, d1⟩ := HBx.out _ h3.fr
 clear h3 H2
 go_wp2_with fail
 refine (rangesX H3.out HR1.out HO1.out (by rw [zeros_len, half_len, half_len, HN.out]; have := HL.out; omega)).mono ?_
 rintro e w4 ⟨rfl, h4⟩
 have H4 := Lib.hid h4
 clear d0 d1
 obtain ⟨d0, d1⟩ := HBx.out _ h4.fr
 clear h4 H3
 go_wp2_with fail
 refine (rangesX H4.out HR2.out HO2.out (by rw [each_len rangeS_len, zeros_len, half_len, half_len, HN.out, HM.out]; have := HL.out; omega)).mono ?_
 rintro e w5 ⟨rfl, h5⟩
 have H5 := Lib.hid (St.since h5 HF0.out)
 clear d0 d1 h5 H4
 go_wp2_with fail
 go_end0
 exact ⟨rfl, H5.out⟩
set_option maxRecDepth 100000 in
set_option maxHeartbeats 8000000 in
theorem portsX (h : Sx B kb im o en w0 s w) {v : Value} {xs : List Int} {da : Option Addr} {dn dc : Nat} (hi : im[4]? = some v) (hi2 : im[2]? = some (.slice da dn dc)) (hr : ∀ W, Fx B w0 W → RowG 1 poE W v xs) (hok : ∀ x ∈ xs, I64R x) (hl : s.1.length + 8 + 8 * xs.length ≤ 274877906944) : Calls Tryz.prog 29 #[.pointer (some ⟨kb, 0, none⟩)] w fun e w' => e = .returned (.tuple #[]) ∧ Sx B kb im o en w0 (eachS portS xs (manyS xs.length (fieldS (decide (xs.length = dn)) s))) w' := by
 have HR : Hid (∀ W, Fx B w0 W → RowG 1 poE W v xs) := hr
 have HL : Hid ((manyS xs.length (fieldS (decide (xs.length = dn)) s)).1.length + 8 * xs.length ≤ 274877906944) := show _ ≤ _ by rw [many_len, field_len]; exact hl
 have HOk : Hid (∀ x ∈ xs, I64R x) := hok
 obtain ⟨ao, cap, rfl, h1, h2, _⟩ := hr w h.fr
 unfold maxLen at h2
 have HI : Hid (∀ W s', Sx B kb im o en w0 s' W → W.cell? ⟨kb, 4, none⟩ = some (.slice ao xs.length cap) ∧ W.cell? ⟨kb, 2, none⟩ = some (.slice da dn dc)) := fun W s' hW => ⟨(St.cell hW 4).trans ((lyC_im hW.him (by decide)).trans hi), (St.cell hW 2).trans ((lyC_im hW.him (by decide)).trans hi2)⟩
 have HD : Hid (Sx B kb im o en w0 s w.drew) := St.below h ⟨rfl, rfl, rfl, Nat.le_refl _, fun _ _ => rfl⟩
 obtain ⟨c4, c2⟩ := HI.out _ _ h
 have HS0 : Hid (w.drew.cell? ⟨kb, 4, none⟩ = some (.slice ao xs.length cap) ∧ w.drew.cell? ⟨kb, 2, none⟩ = some (.slice da dn dc)) := HI.out _ _ HD.out
 obtain ⟨n, hn⟩ : ∃ n, xs.length = n := ⟨_, rfl⟩
 have HN := Lib.hid hn
 have hd : ((n : Int) == (dn : Int)) = decide (n = dn) := by
  by_cases h : n = dn
  ·rw [decide_eq_true h, h]; simp
  ·rw [decide_eq_false h]; simp; omega
 have HMs : Hid (∀ W, Sx B kb im o en w0 (fieldS (decide (n = dn)) s) W → Calls Tryz.prog 62 #[.pointer (some ⟨kb, 0, none⟩), .int .i64 (n : Int)] W fun e w' => e = .returned (.tuple #[]) ∧ Sx B kb im o en w0 (manyS n (fieldS (decide (n = dn)) s)) w') := fun W hW => manyX hW (by omega) (by rw [field_len]; omega)
 rw [hn] at h1 HR HI c4 HS0 HL ⊢
 obtain ⟨bb, hbb⟩ : ∃ bb, decide (n = dn) = bb := ⟨_, rfl⟩
 rw [hbb] at hd HL HMs ⊢
 have HC := Lib.hid (fieldX HD.out bb)
 clear hn h hl hok hr hi hi2 hbb HD
 obtain ⟨s0, hs0⟩ : ∃ s0, manyS n (fieldS bb s) = s0 := ⟨_, rfl⟩
 rw [hs0] at HL HMs ⊢
 clear hs0
 have HCf : Hid (Calls Tryz.prog 59 #[.pointer (some ⟨kb, 0, none⟩), .bool bb] w.drew fun e w' => e = .returned (.tuple #[]) ∧ (w'.cell? ⟨kb, 4, none⟩ = some (.slice ao n cap) ∧ w'.cell? ⟨kb, 2, none⟩ = some (.slice da dn dc)) ∧ Hid (Sx B kb im o en w0 (fieldS bb s) w')) := HC.out.mono (fun e w' h => ⟨h.1, HI.out _ _ h.2, h.2⟩)
 clear HC
 go_enter Tryz.func29, Tryz.ntmps29
 go_upto_region 0 with fail
 go_region_held3 (fun w' => w'.cell? ⟨kb, 4, none⟩ = some (.slice ao n cap) ∧ w'.cell? ⟨kb, 2, none⟩ = some (.slice da dn dc)) (go_keep) (first | (go_at_call 59; refine HCf.out.mono ?_; rintro e w5 ⟨rfl, ⟨k4, k2⟩, H5⟩))
 go_wp2_with fail
 refine (HMs.out _ H5.out).mono ?_
 rintro e w1 ⟨rfl, hm1⟩
 have k4' := (HI.out _ _ hm1).1
 have H0 : Hid (Sx B kb im o en w0 (eachS portS (xs.take 0) s0) w1) := Lib.hid hm1
 clear hm1 HMs HI k4 k2 H5 c4 c2
 go_wp2_with fail
 go_loopw [34] (fun iv wr => ∃ i : Nat, i ≤ n ∧ iv = .int .i64 (i : Int) ∧ Hid (Sx B kb im o en w0 (eachS portS (xs.take i) s0) wr)) (fun iv _ => n - (intOf iv).toNat)
 case atStart => exact ⟨0, Nat.zero_le _, rfl, H0⟩
 case round =>
  clear H0
  obtain ⟨i, hi, rfl, HI⟩ := hrel
  by_cases hin : i < n
  ·have ji : (i : Int) < (n : Int) := by omega
   have hix : i < xs.length := by rw [HN.out]; exact hin
   have hw1 : IntKind.i64.wrap ((i : Int) + 1) = ((i + 1 : Nat) : Int) := by rw [IntKind.wrap_i64]; omega
   obtain ⟨_, _, e', _, _, hc⟩ := HR.out wr HI.out.fr
   simp only [Value.slice.injEq] at e'
   obtain ⟨rfl, e9, rfl⟩ := e'
   clear e9
   obtain ⟨b, of, rfl, _, hc⟩ := hc i hix
   have c0 := hc 0 (by decide)
   simp only [poE, List.getElem?_cons_zero, List.getElem?_cons_succ, Nat.add_zero, Nat.mul_one] at c0
   have hok1 := HOk.out xs[i] (List.getElem_mem _)
   have HE : Hid (∀ W, Sx B kb im o en w0 (portS xs[i] (eachS portS (xs.take i) s0)) W → Sx B kb im o en w0 (eachS portS (xs.take (i + 1)) s0) W) := fun W hW => by rw [eachS_take _ _ _ _ hix]; exact hW
   have HLi : Hid ((eachS portS (xs.take i) s0).1.length + 8 ≤ 274877906944) := show _ ≤ _ by
    rw [each_len portS_len, List.length_take]
    have := HL.out
    omega
   generalize eachS portS (xs.take i) s0 = si at HI HE HLi
   generalize xs[i] = x at *
   clear hc
   have HF0 : Hid (Fx B w0 (wr.alloc (.cells #[.int .i64 x] 73))) := HI.out.fr.trans (Fx.of_below ((Below.refl _ _).alloc (Nat.le_refl _) _))
   have HS0 : Hid (Sx B kb im o en (wr.alloc (.cells #[.int .i64 x] 73)) si (wr.alloc (.cells #[.int .i64 x] 73))) := (St.below HI.out ((Below.refl _ _).alloc (Nat.le_refl _) _)).here
   have HBx : Hid (∀ W, Fx B (wr.alloc (.cells #[.int .i64 x] 73)) W → W.cell? ⟨wr.heap.size, 0, none⟩ = some (.int .i64 x)) := fun W hW => by
    have hb := (hW.block' ⟨_, heap_alloc_new wr _⟩ (by simp) (by decide) (by decide) (by decide)).trans (heap_alloc_new wr _)
    refine ?_ <;> (rw [cell_of_row _ _ _ _ _ _ hb]; rfl)
   go_wp2_with fail
   refine (noneX HS0.out (k := x) hok1 (by (try simp only [byte_len, half_len, none_len, word_len, long_len, zeros_len, flag_len, field_len, many_len, ask_len, bytes_len]); have := HLi.out; omega)).mono ?_
   rintro e w1 ⟨rfl, h1⟩
   obtain d0 := HBx.out _ h1.fr
   have HS1 := Lib.hid h1
   clear h1 HS0
   go_wp2_with fail
   clear d0
   refine (zerosX HS1.out (c := 6) (by (try simp only [byte_len, half_len, none_len, word_len, long_len, zeros_len, flag_len, field_len, many_len, ask_len, bytes_len]); have := HLi.out; omega)).mono ?_
   rintro e w2 ⟨rfl, h2⟩
   have HS2 := Lib.hid h2
   clear h2 HS1
   go_wp2_with fail
   go_roundw
   case rel => exact ⟨i + 1, by omega, rfl, HE.out _ (HS2.out.since HF0.out)⟩
   case measure => simp [intOf]; omega
  ·obtain rfl : i = n := by omega
   have ji : ¬ (i : Int) < (i : Int) := by omega
   have HE : Hid (eachS portS (xs.take i) s0 = eachS portS xs s0) := show _ = _ by rw [List.take_of_length_le (by rw [HN.out]; exact Nat.le_refl _)]
   rw [HE.out] at HI
   go_wp2_with fail
   go_end0
   exact ⟨rfl, HI.out⟩
end
end Go.Proofs.YtnifefmfhjfbnaaGreatDoor
