import Derived.Test.YtnifefmfhjfbnaaGreatDoorPk13
import Derived.Test.YtnifefmfhjfbnaaGreatDoorProg
import Derived.WalkKit
import Derived.WalkSpells
import Derived.Deep.RegionHeld3
/- Bundle: the layer's loops over rows (written by parts/gen_bnsec.py). Own work. -/
namespace Go.Proofs.YtnifefmfhjfbnaaGreatDoor
open Go.RowKit Bn
set_option linter.unusedVariables false
set_option linter.unusedSimpArgs false
theorem rangeS_len (r : Rg) (s : S) : (rangeS r s).1.length = s.1.length + 16 := by rw [rangeS, long_len, long_len]
theorem stS_len (x : Int × Int) (s : S) : (stS x s).1.length = s.1.length + 8 := by rw [stS, word_len, zeros_len, none_len]
theorem tenS_len (x : Tn) (s : S) : (tenS x s).1.length = s.1.length + 8 := by rw [tenS, none_len, none_len, byte_len, byte_len, flag_len, byte_len]
theorem portS_len (x : Int) (s : S) : (portS x s).1.length = s.1.length + 8 := by rw [portS, zeros_len, none_len]
theorem chS_len (x : Lk) (s : S) : (chS x s).1.length = s.1.length + 8 := by rw [chS, zeros_len, byte_len, byte_len, none_len, none_len, field_len]
theorem iqS_len (x : Lk) (s : S) : (iqS x s).1.length = s.1.length + 8 := by rw [iqS, zeros_len, flag_len, byte_len, none_len, none_len, field_len]
section
variable {B kb : Nat} {im : List Value} {o : Option Nat} {en : List Value} {w0 : World} {s0 : S} {w : World}
variable {s : S}
set_option maxRecDepth 100000 in
set_option maxHeartbeats 8000000 in
theorem rangesX (h : Sx B kb im o en w0 s0 w) {v : Value} {xs : List Rg} (hr : ∀ W, Fx B w0 W → RowG 2 rgE W v xs) (hok : ∀ x ∈ xs, rgOk x) (hl : s0.1.length + 16 * xs.length ≤ 274877906944) : Calls Tryz.prog 61 #[.pointer (some ⟨kb, 0, none⟩), v] w fun e w' => e = .returned (.tuple #[]) ∧ Sx B kb im o en w0 (eachS rangeS xs s0) w' := by
 have HR : Hid (∀ W, Fx B w0 W → RowG 2 rgE W v xs) := hr
 have H0 : Hid (Sx B kb im o en w0 (eachS rangeS (xs.take 0) s0) w) := Lib.hid h
 have HL : Hid (s0.1.length + 16 * xs.length ≤ 274877906944) := hl
 have HOk : Hid (∀ x ∈ xs, rgOk x) := hok
 obtain ⟨ao, cap, rfl, h1, h2, _⟩ := hr w h.fr
 unfold maxLen at h2
 obtain ⟨n, hn⟩ : ∃ n, xs.length = n := ⟨_, rfl⟩
 have HN := Lib.hid hn
 rw [hn] at h1 HR ⊢
 clear hn h hl hok hr
 go_enter Tryz.func61, Tryz.ntmps61
 go_wp2_with fail
 go_loopw [8] (fun iv wr => ∃ i : Nat, i ≤ n ∧ iv = .int .i64 (i : Int) ∧ Hid (Sx B kb im o en w0 (eachS rangeS (xs.take i) s0) wr)) (fun iv _ => n - (intOf iv).toNat)
 case atStart => exact ⟨0, Nat.zero_le _, rfl, H0⟩
 case round =>
  clear H0
  obtain ⟨i, hi, rfl, HI⟩ := hrel
  by_cases hin : i < n
  ·have ji : (i : Int) < (n : Int) := by omega
   have hix : i < xs.length := by rw [HN.out]; exact hin
   have hw1 : IntKind.i64.wrap ((i : Int) + 1) = ((i + 1 : Nat) : Int) := by rw [IntKind.wrap_i64]; omega
   obtain ⟨_, _, e', _, _, hc⟩ := HR.out wr HI.out.fr
   simp only [Value.slice.injEq] at e'
   obtain ⟨rfl, e9, rfl⟩ := e'
   clear e9
   obtain ⟨b, of, rfl, _, hc⟩ := hc i hix
   have c0 := hc 0 (by decide)
   have c1 := hc 1 (by decide)
   simp only [rgE, List.getElem?_cons_zero, List.getElem?_cons_succ, Nat.add_zero] at c0 c1
   have hok1 := HOk.out xs[i] (List.getElem_mem _)
   have HE : Hid (∀ W, Sx B kb im o en w0 (rangeS xs[i] (eachS rangeS (xs.take i) s0)) W → Sx B kb im o en w0 (eachS rangeS (xs.take (i + 1)) s0) W) := fun W hW => by rw [eachS_take _ _ _ _ hix]; exact hW
   have HLi : Hid ((eachS rangeS (xs.take i) s0).1.length + 16 ≤ 274877906944) := show _ ≤ _ by
    rw [each_len rangeS_len, List.length_take]
    have := HL.out
    omega
   generalize eachS rangeS (xs.take i) s0 = si at HI HE HLi
   generalize xs[i] = x at *
   obtain ⟨xa, xb⟩ := x
   obtain ⟨hx0, hx1⟩ := hok1
   clear hc
   have HF0 : Hid (Fx B w0 (wr.alloc (.cells #[.int .u64 (xa : Int), .int .u64 (xb : Int)] 79))) := HI.out.fr.trans (Fx.of_below ((Below.refl _ _).alloc (Nat.le_refl _) _))
   have HS0 : Hid (Sx B kb im o en (wr.alloc (.cells #[.int .u64 (xa : Int), .int .u64 (xb : Int)] 79)) si (wr.alloc (.cells #[.int .u64 (xa : Int), .int .u64 (xb : Int)] 79))) := (St.below HI.out ((Below.refl _ _).alloc (Nat.le_refl _) _)).here
   have HBx : Hid (∀ W, Fx B (wr.alloc (.cells #[.int .u64 (xa : Int), .int .u64 (xb : Int)] 79)) W → W.cell? ⟨wr.heap.size, 0, none⟩ = some (.int .u64 (xa : Int)) ∧ W.cell? ⟨wr.heap.size, 1, none⟩ = some (.int .u64 (xb : Int))) := fun W hW => by
    have hb := (hW.block' ⟨_, heap_alloc_new wr _⟩ (by simp) (by decide) (by decide) (by decide)).trans (heap_alloc_new wr _)
    refine ⟨?_, ?_⟩ <;> (rw [cell_of_row _ _ _ _ _ _ hb]; rfl)
   go_wp2_with fail
   refine (longX HS0.out (m := xa) hx0 (by (try simp only [byte_len, half_len, none_len, word_len, long_len, zeros_len, flag_len, field_len, many_len, ask_len, bytes_len]); have := HLi.out; omega)).mono ?_
   rintro e w1 ⟨rfl, h1⟩
   obtain ⟨d0, d1⟩ := HBx.out _ h1.fr
   have HS1 := Lib.hid h1
   clear h1 HS0
   go_wp2_with fail
   clear d0 d1
   refine (longX HS1.out (m := xb) hx1 (by (try simp only [byte_len, half_len, none_len, word_len, long_len, zeros_len, flag_len, field_len, many_len, ask_len, bytes_len]); have := HLi.out; omega)).mono ?_
   rintro e w2 ⟨rfl, h2⟩
   have HS2 := Lib.hid h2
   clear h2 HS1
   go_wp2_with fail
   go_roundw
   case rel => exact ⟨i + 1, by omega, rfl, HE.out _ (HS2.out.since HF0.out)⟩
   case measure => simp [intOf]; omega
  ·obtain rfl : i = n := by omega
   have ji : ¬ (i : Int) < (i : Int) := by omega
   have HE : Hid (eachS rangeS (xs.take i) s0 = eachS rangeS xs s0) := show _ = _ by rw [List.take_of_length_le (by rw [HN.out]; exact Nat.le_refl _)]
   rw [HE.out] at HI
   go_wp2_with fail
   go_end0
   exact ⟨rfl, HI.out⟩
set_option maxRecDepth 100000 in
set_option maxHeartbeats 8000000 in
theorem subjectsX (h : Sx B kb im o en w0 s w) {v : Value} {xs : List Tn} (hi : im[3]? = some v) (hr : ∀ W, Fx B w0 W → RowG 6 tnE W v xs) (hok : ∀ x ∈ xs, tnOk x) (hl : s.1.length + 8 + 8 * xs.length ≤ 274877906944) : Calls Tryz.prog 28 #[.pointer (some ⟨kb, 0, none⟩)] w fun e w' => e = .returned (.tuple #[]) ∧ Sx B kb im o en w0 (eachS tenS xs (manyS xs.length s)) w' := by
 have HR : Hid (∀ W, Fx B w0 W → RowG 6 tnE W v xs) := hr
 have HL : Hid ((manyS xs.length s).1.length + 8 * xs.length ≤ 274877906944) := show _ ≤ _ by rw [many_len]; exact hl
 have HOk : Hid (∀ x ∈ xs, tnOk x) := hok
 obtain ⟨ao, cap, rfl, h1, h2, _⟩ := hr w h.fr
 have h2' := h2
 unfold maxLen at h2
 have HC := Lib.hid (manyX h (n := xs.length) (by unfold maxLen at h2'; omega) (by omega))
 have HI : Hid (∀ W s', Sx B kb im o en w0 s' W → W.cell? ⟨kb, 3, none⟩ = some (.slice ao xs.length cap)) := fun W s' hW => (St.cell hW 3).trans ((lyC_im hW.him (by decide)).trans hi)
 have c0 := HI.out _ _ h
 obtain ⟨n, hn⟩ : ∃ n, xs.length = n := ⟨_, rfl⟩
 have HN := Lib.hid hn
 rw [hn] at h1 HR HC HI c0 HL ⊢
 clear hn h hl hok hr h2' hi
 obtain ⟨s0, hs0⟩ : ∃ s0, manyS n s = s0 := ⟨_, rfl⟩
 rw [hs0] at HC HL ⊢
 clear hs0
 go_enter Tryz.func28, Tryz.ntmps28
 go_wp2_with fail
 refine HC.out.mono ?_
 rintro e w1 ⟨rfl, hm1⟩
 have c1 := HI.out _ _ hm1
 have H0 : Hid (Sx B kb im o en w0 (eachS tenS (xs.take 0) s0) w1) := Lib.hid hm1
 clear hm1 HC HI c0
 go_wp2_with fail
 go_loopw [18] (fun iv wr => ∃ i : Nat, i ≤ n ∧ iv = .int .i64 (i : Int) ∧ Hid (Sx B kb im o en w0 (eachS tenS (xs.take i) s0) wr)) (fun iv _ => n - (intOf iv).toNat)
 case atStart => exact ⟨0, Nat.zero_le _, rfl, H0⟩
 case round =>
  clear H0
  obtain ⟨i, hi, rfl, HI⟩ := hrel
  by_cases hin : i < n
  ·have ji : (i : Int) < (n : Int) := by omega
   have hix : i < xs.length := by rw [HN.out]; exact hin
   have hw1 : IntKind.i64.wrap ((i : Int) + 1) = ((i + 1 : Nat) : Int) := by rw [IntKind.wrap_i64]; omega
   obtain ⟨_, _, e', _, _, hc⟩ := HR.out wr HI.out.fr
   simp only [Value.slice.injEq] at e'
   obtain ⟨rfl, e9, rfl⟩ := e'
   clear e9
   obtain ⟨b, of, rfl, _, hc⟩ := hc i hix
   have c0 := hc 0 (by decide)
   have c1 := hc 1 (by decide)
   have c2 := hc 2 (by decide)
   have c3 := hc 3 (by decide)
   have c4 := hc 4 (by decide)
   have c5 := hc 5 (by decide)
   simp only [tnE, List.getElem?_cons_zero, List.getElem?_cons_succ, Nat.add_zero] at c0 c1 c2 c3 c4 c5
   have hok1 := HOk.out xs[i] (List.getElem_mem _)
   have HE : Hid (∀ W, Sx B kb im o en w0 (tenS xs[i] (eachS tenS (xs.take i) s0)) W → Sx B kb im o en w0 (eachS tenS (xs.take (i + 1)) s0) W) := fun W hW => by rw [eachS_take _ _ _ _ hix]; exact hW
   have HLi : Hid ((eachS tenS (xs.take i) s0).1.length + 8 ≤ 274877906944) := show _ ≤ _ by
    rw [each_len tenS_len, List.length_take]
    have := HL.out
    omega
   generalize eachS tenS (xs.take i) s0 = si at HI HE HLi
   generalize xs[i] = x at *
   obtain ⟨xa, xb, xc, xd, xe, xf⟩ := x
   obtain ⟨hx0, hx1, hx3, hx4, hx5⟩ := hok1
   clear hc
   have HF0 : Hid (Fx B w0 (wr.alloc (.cells #[.int .i64 xa, .int .i64 xb, .bool xc, .int .i64 xd, .int .i64 xe, .int .i64 xf] 71))) := HI.out.fr.trans (Fx.of_below ((Below.refl _ _).alloc (Nat.le_refl _) _))
   have HS0 : Hid (Sx B kb im o en (wr.alloc (.cells #[.int .i64 xa, .int .i64 xb, .bool xc, .int .i64 xd, .int .i64 xe, .int .i64 xf] 71)) si (wr.alloc (.cells #[.int .i64 xa, .int .i64 xb, .bool xc, .int .i64 xd, .int .i64 xe, .int .i64 xf] 71))) := (St.below HI.out ((Below.refl _ _).alloc (Nat.le_refl _) _)).here
   have HBx : Hid (∀ W, Fx B (wr.alloc (.cells #[.int .i64 xa, .int .i64 xb, .bool xc, .int .i64 xd, .int .i64 xe, .int .i64 xf] 71)) W → W.cell? ⟨wr.heap.size, 0, none⟩ = some (.int .i64 xa) ∧ W.cell? ⟨wr.heap.size, 1, none⟩ = some (.int .i64 xb) ∧ W.cell? ⟨wr.heap.size, 2, none⟩ = some (.bool xc) ∧ W.cell? ⟨wr.heap.size, 3, none⟩ = some (.int .i64 xd) ∧ W.cell? ⟨wr.heap.size, 4, none⟩ = some (.int .i64 xe) ∧ W.cell? ⟨wr.heap.size, 5, none⟩ = some (.int .i64 xf)) := fun W hW => by
    have hb := (hW.block' ⟨_, heap_alloc_new wr _⟩ (by simp) (by decide) (by decide) (by decide)).trans (heap_alloc_new wr _)
    refine ⟨?_, ?_, ?_, ?_, ?_, ?_⟩ <;> (rw [cell_of_row _ _ _ _ _ _ hb]; rfl)
   go_wp2_with fail
   refine (byteX HS0.out (k := xa) hx0 (by (try simp only [byte_len, half_len, none_len, word_len, long_len, zeros_len, flag_len, field_len, many_len, ask_len, bytes_len]); have := HLi.out; omega)).mono ?_
   rintro e w1 ⟨rfl, h1⟩
   obtain ⟨d0, d1, d2, d3, d4, d5⟩ := HBx.out _ h1.fr
   have HS1 := Lib.hid h1
   clear h1 HS0
   go_wp2_with fail
   clear d0 d1 d2 d3 d4 d5
   refine (flagX HS1.out (b := xc) (by (try simp only [byte_len, half_len, none_len, word_len, long_len, zeros_len, flag_len, field_len, many_len, ask_len, bytes_len]); have := HLi.out; omega)).mono ?_
   rintro e w2 ⟨rfl, h2⟩
   obtain ⟨d0, d1, d2, d3, d4, d5⟩ := HBx.out _ h2.fr
   have HS2 := Lib.hid h2
   clear h2 HS1
   go_wp2_with fail
   clear d0 d1 d2 d3 d4 d5
   refine (byteX HS2.out (k := xd) hx3 (by (try simp only [byte_len, half_len, none_len, word_len, long_len, zeros_len, flag_len, field_len, many_len, ask_len, bytes_len]); have := HLi.out; omega)).mono ?_
   rintro e w3 ⟨rfl, h3⟩
   obtain ⟨d0, d1, d2, d3, d4, d5⟩ := HBx.out _ h3.fr
   have HS3 := Lib.hid h3
   clear h3 HS2
   go_wp2_with fail
   clear d0 d1 d2 d3 d4 d5
   refine (byteX HS3.out (k := xf) hx5 (by (try simp only [byte_len, half_len, none_len, word_len, long_len, zeros_len, flag_len, field_len, many_len, ask_len, bytes_len]); have := HLi.out; omega)).mono ?_
   rintro e w4 ⟨rfl, h4⟩
   obtain ⟨d0, d1, d2, d3, d4, d5⟩ := HBx.out _ h4.fr
   have HS4 := Lib.hid h4
   clear h4 HS3
   go_wp2_with fail
   clear d0 d1 d2 d3 d4 d5
   refine (noneX HS4.out (k := xe) hx4 (by (try simp only [byte_len, half_len, none_len, word_len, long_len, zeros_len, flag_len, field_len, many_len, ask_len, bytes_len]); have := HLi.out; omega)).mono ?_
   rintro e w5 ⟨rfl, h5⟩
   obtain ⟨d0, d1, d2, d3, d4, d5⟩ := HBx.out _ h5.fr
   have HS5 := Lib.hid h5
   clear h5 HS4
   go_wp2_with fail
   clear d0 d1 d2 d3 d4 d5
   refine (noneX HS5.out (k := xb) hx1 (by (try simp only [byte_len, half_len, none_len, word_len, long_len, zeros_len, flag_len, field_len, many_len, ask_len, bytes_len]); have := HLi.out; omega)).mono ?_
   rintro e w6 ⟨rfl, h6⟩
   have HS6 := Lib.hid h6
   clear h6 HS5
   go_wp2_with fail
   go_roundw
   case rel => exact ⟨i + 1, by omega, rfl, HE.out _ (HS6.out.since HF0.out)⟩
   case measure => simp [intOf]; omega
  ·obtain rfl : i = n := by omega
   have ji : ¬ (i : Int) < (i : Int) := by omega
   have HE : Hid (eachS tenS (xs.take i) s0 = eachS tenS xs s0) := show _ = _ by rw [List.take_of_length_le (by rw [HN.out]; exact Nat.le_refl _)]
   rw [HE.out] at HI
   go_wp2_with fail
   go_end0
   exact ⟨rfl, HI.out⟩
set_option maxRecDepth 100000 in
set_option maxHeartbeats 8000000 in
theorem channelsX (h : Sx B kb im o en w0 s w) {v : Value} {xs : List Lk} (hi : im[6]? = some v) (hr : ∀ W, Fx B w0 W → RowG 5 lkE W v xs) (hok : ∀ x ∈ xs, lkOk x) (hl : s.1.length + 8 + 8 * xs.length ≤ 274877906944) : Calls Tryz.prog 31 #[.pointer (some ⟨kb, 0, none⟩)] w fun e w' => e = .returned (.tuple #[]) ∧ Sx B kb im o en w0 (eachS chS xs (manyS xs.length s)) w' := by
 have HR : Hid (∀ W, Fx B w0 W → RowG 5 lkE W v xs) := hr
 have HL : Hid ((manyS xs.length s).1.length + 8 * xs.length ≤ 274877906944) := show _ ≤ _ by rw [many_len]; exact hl
 have HOk : Hid (∀ x ∈ xs, lkOk x) := hok
 obtain ⟨ao, cap, rfl, h1, h2, _⟩ := hr w h.fr
 have h2' := h2
 unfold maxLen at h2
 have HC := Lib.hid (manyX h (n := xs.length) (by unfold maxLen at h2'; omega) (by omega))
 have HI : Hid (∀ W s', Sx B kb im o en w0 s' W → W.cell? ⟨kb, 6, none⟩ = some (.slice ao xs.length cap)) := fun W s' hW => (St.cell hW 6).trans ((lyC_im hW.him (by decide)).trans hi)
 have c0 := HI.out _ _ h
 obtain ⟨n, hn⟩ : ∃ n, xs.length = n := ⟨_, rfl⟩
 have HN := Lib.hid hn
 rw [hn] at h1 HR HC HI c0 HL ⊢
 clear hn h hl hok hr h2' hi
 obtain ⟨s0, hs0⟩ : ∃ s0, manyS n s = s0 := ⟨_, rfl⟩
 rw [hs0] at HC HL ⊢
 clear hs0
 go_enter Tryz.func31, Tryz.ntmps31
 go_wp2_with fail
 refine HC.out.mono ?_
 rintro e w1 ⟨rfl, hm1⟩
 have c1 := HI.out _ _ hm1
 have H0 : Hid (Sx B kb im o en w0 (eachS chS (xs.take 0) s0) w1) := Lib.hid hm1
 clear hm1 HC HI c0
 go_wp2_with fail
 go_loopw [18] (fun iv wr => ∃ i : Nat, i ≤ n ∧ iv = .int .i64 (i : Int) ∧ Hid (Sx B kb im o en w0 (eachS chS (xs.take i) s0) wr)) (fun iv _ => n - (intOf iv).toNat)
 case atStart => exact ⟨0, Nat.zero_le _, rfl, H0⟩
 case round =>
  clear H0
  obtain ⟨i, hi, rfl, HI⟩ := hrel
  by_cases hin : i < n
  ·have ji : (i : Int) < (n : Int) := by omega
   have hix : i < xs.length := by rw [HN.out]; exact hin
   have hw1 : IntKind.i64.wrap ((i : Int) + 1) = ((i + 1 : Nat) : Int) := by rw [IntKind.wrap_i64]; omega
   obtain ⟨_, _, e', _, _, hc⟩ := HR.out wr HI.out.fr
   simp only [Value.slice.injEq] at e'
   obtain ⟨rfl, e9, rfl⟩ := e'
   clear e9
   obtain ⟨b, of, rfl, _, hc⟩ := hc i hix
   have c0 := hc 0 (by decide)
   have c1 := hc 1 (by decide)
   have c2 := hc 2 (by decide)
   have c3 := hc 3 (by decide)
   have c4 := hc 4 (by decide)
   simp only [lkE, List.getElem?_cons_zero, List.getElem?_cons_succ, Nat.add_zero] at c0 c1 c2 c3 c4
   have hok1 := HOk.out xs[i] (List.getElem_mem _)
   have HE : Hid (∀ W, Sx B kb im o en w0 (chS xs[i] (eachS chS (xs.take i) s0)) W → Sx B kb im o en w0 (eachS chS (xs.take (i + 1)) s0) W) := fun W hW => by rw [eachS_take _ _ _ _ hix]; exact hW
   have HLi : Hid ((eachS chS (xs.take i) s0).1.length + 8 ≤ 274877906944) := show _ ≤ _ by
    rw [each_len chS_len, List.length_take]
    have := HL.out
    omega
   generalize eachS chS (xs.take i) s0 = si at HI HE HLi
   generalize xs[i] = x at *
   obtain ⟨xa, xb, xc, xd, xe⟩ := x
   obtain ⟨hx0, hx1, hx2, hx3⟩ := hok1
   clear hc
   have HF0 : Hid (Fx B w0 (wr.alloc (.cells #[.int .i64 xa, .int .i64 xb, .int .i64 xc, .int .i64 xd, .bool xe] 81))) := HI.out.fr.trans (Fx.of_below ((Below.refl _ _).alloc (Nat.le_refl _) _))
   have HS0 : Hid (Sx B kb im o en (wr.alloc (.cells #[.int .i64 xa, .int .i64 xb, .int .i64 xc, .int .i64 xd, .bool xe] 81)) si (wr.alloc (.cells #[.int .i64 xa, .int .i64 xb, .int .i64 xc, .int .i64 xd, .bool xe] 81))) := (St.below HI.out ((Below.refl _ _).alloc (Nat.le_refl _) _)).here
   have HBx : Hid (∀ W, Fx B (wr.alloc (.cells #[.int .i64 xa, .int .i64 xb, .int .i64 xc, .int .i64 xd, .bool xe] 81)) W → W.cell? ⟨wr.heap.size, 0, none⟩ = some (.int .i64 xa) ∧ W.cell? ⟨wr.heap.size, 1, none⟩ = some (.int .i64 xb) ∧ W.cell? ⟨wr.heap.size, 2, none⟩ = some (.int .i64 xc) ∧ W.cell? ⟨wr.heap.size, 3, none⟩ = some (.int .i64 xd) ∧ W.cell? ⟨wr.heap.size, 4, none⟩ = some (.bool xe)) := fun W hW => by
    have hb := (hW.block' ⟨_, heap_alloc_new wr _⟩ (by simp) (by decide) (by decide) (by decide)).trans (heap_alloc_new wr _)
    refine ⟨?_, ?_, ?_, ?_, ?_⟩ <;> (rw [cell_of_row _ _ _ _ _ _ hb]; rfl)
   go_wp2_with fail
   refine (fieldX HS0.out (!xe)).mono ?_
   rintro e w1 ⟨rfl, h1⟩
   obtain ⟨d0, d1, d2, d3, d4⟩ := HBx.out _ h1.fr
   have HS1 := Lib.hid h1
   clear h1 HS0
   go_wp2_with fail
   clear d0 d1 d2 d3 d4
   refine (noneX HS1.out (k := xa) hx0 (by (try simp only [byte_len, half_len, none_len, word_len, long_len, zeros_len, flag_len, field_len, many_len, ask_len, bytes_len]); have := HLi.out; omega)).mono ?_
   rintro e w2 ⟨rfl, h2⟩
   obtain ⟨d0, d1, d2, d3, d4⟩ := HBx.out _ h2.fr
   have HS2 := Lib.hid h2
   clear h2 HS1
   go_wp2_with fail
   clear d0 d1 d2 d3 d4
   refine (noneX HS2.out (k := xb) hx1 (by (try simp only [byte_len, half_len, none_len, word_len, long_len, zeros_len, flag_len, field_len, many_len, ask_len, bytes_len]); have := HLi.out; omega)).mono ?_
   rintro e w3 ⟨rfl, h3⟩
   obtain ⟨d0, d1, d2, d3, d4⟩ := HBx.out _ h3.fr
   have HS3 := Lib.hid h3
   clear h3 HS2
   go_wp2_with fail
   clear d0 d1 d2 d3 d4
   refine (byteX HS3.out (k := xc) hx2 (by (try simp only [byte_len, half_len, none_len, word_len, long_len, zeros_len, flag_len, field_len, many_len, ask_len, bytes_len]); have := HLi.out; omega)).mono ?_
   rintro e w4 ⟨rfl, h4⟩
   obtain ⟨d0, d1, d2, d3, d4⟩ := HBx.out _ h4.fr
   have HS4 := Lib.hid h4
   clear h4 HS3
   go_wp2_with fail
   clear d0 d1 d2 d3 d4
   refine (byteX HS4.out (k := xd) hx3 (by (try simp only [byte_len, half_len, none_len, word_len, long_len, zeros_len, flag_len, field_len, many_len, ask_len, bytes_len]); have := HLi.out; omega)).mono ?_
   rintro e w5 ⟨rfl, h5⟩
   obtain ⟨d0, d1, d2, d3, d4⟩ := HBx.out _ h5.fr
   have HS5 := Lib.hid h5
   clear h5 HS4
   go_wp2_with fail
   clear d0 d1 d2 d3 d4
   refine (zerosX HS5.out (c := 2) (by (try simp only [byte_len, half_len, none_len, word_len, long_len, zeros_len, flag_len, field_len, many_len, ask_len, bytes_len]); have := HLi.out; omega)).mono ?_
   rintro e w6 ⟨rfl, h6⟩
   have HS6 := Lib.hid h6
   clear h6 HS5
   go_wp2_with fail
   go_roundw
   case rel => exact ⟨i + 1, by omega, rfl, HE.out _ (HS6.out.since HF0.out)⟩
   case measure => simp [intOf]; omega
  ·obtain rfl : i = n := by omega
   have ji : ¬ (i : Int) < (i : Int) := by omega
   have HE : Hid (eachS chS (xs.take i) s0 = eachS chS xs s0) := show _ = _ by rw [List.take_of_length_le (by rw [HN.out]; exact Nat.le_refl _)]
   rw [HE.out] at HI
   go_wp2_with fail
   go_end0
   exact ⟨rfl, HI.out⟩
set_option maxRecDepth 100000 in
set_option maxHeartbeats 8000000 in
theorem irqsX (h : Sx B kb im o en w0 s w) {v : Value} {xs : List Lk} (hi : im[7]? = some v) (hr : ∀ W, Fx B w0 W → RowG 5 lkE W v xs) (hok : ∀ x ∈ xs, lkOk x) (hl : s.1.length + 8 + 8 * xs.length ≤ 274877906944) : Calls Tryz.prog 32 #[.pointer (some ⟨kb, 0, none⟩)] w fun e w' => e = .returned (.tuple #[]) ∧ Sx B kb im o en w0 (eachS iqS xs (manyS xs.length s)) w' := by
 have HR : Hid (∀ W, Fx B w0 W → RowG 5 lkE W v xs) := hr
 have HL : Hid ((manyS xs.length s).1.length + 8 * xs.length ≤ 274877906944) := show _ ≤ _ by rw [many_len]; exact hl
 have HOk : Hid (∀ x ∈ xs, lkOk x) := hok
 obtain ⟨ao, cap, rfl, h1, h2, _⟩ := hr w h.fr
 have h2' := h2
 unfold maxLen at h2
 have HC := Lib.hid (manyX h (n := xs.length) (by unfold maxLen at h2'; omega) (by omega))
 have HI : Hid (∀ W s', Sx B kb im o en w0 s' W → W.cell? ⟨kb, 7, none⟩ = some (.slice ao xs.length cap)) := fun W s' hW => (St.cell hW 7).trans ((lyC_im hW.him (by decide)).trans hi)
 have c0 := HI.out _ _ h
 obtain ⟨n, hn⟩ : ∃ n, xs.length = n := ⟨_, rfl⟩
 have HN := Lib.hid hn
 rw [hn] at h1 HR HC HI c0 HL ⊢
 clear hn h hl hok hr h2' hi
 obtain ⟨s0, hs0⟩ : ∃ s0, manyS n s = s0 := ⟨_, rfl⟩
 rw [hs0] at HC HL ⊢
 clear hs0
 go_enter Tryz.func32, Tryz.ntmps32
 go_wp2_with fail
 refine HC.out.mono ?_
 rintro e w1 ⟨rfl, hm1⟩
 have c1 := HI.out _ _ hm1
 have H0 : Hid (Sx B kb im o en w0 (eachS iqS (xs.take 0) s0) w1) := Lib.hid hm1
 clear hm1 HC HI c0
 go_wp2_with fail
 go_loopw [18] (fun iv wr => ∃ i : Nat, i ≤ n ∧ iv = .int .i64 (i : Int) ∧ Hid (Sx B kb im o en w0 (eachS iqS (xs.take i) s0) wr)) (fun iv _ => n - (intOf iv).toNat)
 case atStart => exact ⟨0, Nat.zero_le _, rfl, H0⟩
 case round =>
  clear H0
  obtain ⟨i, hi, rfl, HI⟩ := hrel
  by_cases hin : i < n
  ·have ji : (i : Int) < (n : Int) := by omega
   have hix : i < xs.length := by rw [HN.out]; exact hin
   have hw1 : IntKind.i64.wrap ((i : Int) + 1) = ((i + 1 : Nat) : Int) := by rw [IntKind.wrap_i64]; omega
   obtain ⟨_, _, e', _, _, hc⟩ := HR.out wr HI.out.fr
   simp only [Value.slice.injEq] at e'
   obtain ⟨rfl, e9, rfl⟩ := e'
   clear e9
   obtain ⟨b, of, rfl, _, hc⟩ := hc i hix
   have c0 := hc 0 (by decide)
   have c1 := hc 1 (by decide)
   have c2 := hc 2 (by decide)
   have c3 := hc 3 (by decide)
   have c4 := hc 4 (by decide)
   simp only [lkE, List.getElem?_cons_zero, List.getElem?_cons_succ, Nat.add_zero] at c0 c1 c2 c3 c4
   have hok1 := HOk.out xs[i] (List.getElem_mem _)
   have HE : Hid (∀ W, Sx B kb im o en w0 (iqS xs[i] (eachS iqS (xs.take i) s0)) W → Sx B kb im o en w0 (eachS iqS (xs.take (i + 1)) s0) W) := fun W hW => by rw [eachS_take _ _ _ _ hix]; exact hW
   have HLi : Hid ((eachS iqS (xs.take i) s0).1.length + 8 ≤ 274877906944) := show _ ≤ _ by
    rw [each_len iqS_len, List.length_take]
    have := HL.out
    omega
   generalize eachS iqS (xs.take i) s0 = si at HI HE HLi
   generalize xs[i] = x at *
   obtain ⟨xa, xb, xc, xd, xe⟩ := x
   obtain ⟨hx0, hx1, hx2, hx3⟩ := hok1
   clear hc
   have HF0 : Hid (Fx B w0 (wr.alloc (.cells #[.int .i64 xa, .int .i64 xb, .int .i64 xc, .int .i64 xd, .bool xe] 81))) := HI.out.fr.trans (Fx.of_below ((Below.refl _ _).alloc (Nat.le_refl _) _))
   have HS0 : Hid (Sx B kb im o en (wr.alloc (.cells #[.int .i64 xa, .int .i64 xb, .int .i64 xc, .int .i64 xd, .bool xe] 81)) si (wr.alloc (.cells #[.int .i64 xa, .int .i64 xb, .int .i64 xc, .int .i64 xd, .bool xe] 81))) := (St.below HI.out ((Below.refl _ _).alloc (Nat.le_refl _) _)).here
   have HBx : Hid (∀ W, Fx B (wr.alloc (.cells #[.int .i64 xa, .int .i64 xb, .int .i64 xc, .int .i64 xd, .bool xe] 81)) W → W.cell? ⟨wr.heap.size, 0, none⟩ = some (.int .i64 xa) ∧ W.cell? ⟨wr.heap.size, 1, none⟩ = some (.int .i64 xb) ∧ W.cell? ⟨wr.heap.size, 2, none⟩ = some (.int .i64 xc) ∧ W.cell? ⟨wr.heap.size, 3, none⟩ = some (.int .i64 xd) ∧ W.cell? ⟨wr.heap.size, 4, none⟩ = some (.bool xe)) := fun W hW => by
    have hb := (hW.block' ⟨_, heap_alloc_new wr _⟩ (by simp) (by decide) (by decide) (by decide)).trans (heap_alloc_new wr _)
    refine ⟨?_, ?_, ?_, ?_, ?_⟩ <;> (rw [cell_of_row _ _ _ _ _ _ hb]; rfl)
   go_wp2_with fail
   refine (fieldX HS0.out (decide (xc = 1))).mono ?_
   rintro e w1 ⟨rfl, h1⟩
   obtain ⟨d0, d1, d2, d3, d4⟩ := HBx.out _ h1.fr
   have HS1 := Lib.hid h1
   clear h1 HS0
   go_wp2_with fail
   clear d0 d1 d2 d3 d4
   refine (noneX HS1.out (k := xa) hx0 (by (try simp only [byte_len, half_len, none_len, word_len, long_len, zeros_len, flag_len, field_len, many_len, ask_len, bytes_len]); have := HLi.out; omega)).mono ?_
   rintro e w2 ⟨rfl, h2⟩
   obtain ⟨d0, d1, d2, d3, d4⟩ := HBx.out _ h2.fr
   have HS2 := Lib.hid h2
   clear h2 HS1
   go_wp2_with fail
   clear d0 d1 d2 d3 d4
   refine (noneX HS2.out (k := xb) hx1 (by (try simp only [byte_len, half_len, none_len, word_len, long_len, zeros_len, flag_len, field_len, many_len, ask_len, bytes_len]); have := HLi.out; omega)).mono ?_
   rintro e w3 ⟨rfl, h3⟩
   obtain ⟨d0, d1, d2, d3, d4⟩ := HBx.out _ h3.fr
   have HS3 := Lib.hid h3
   clear h3 HS2
   go_wp2_with fail
   clear d0 d1 d2 d3 d4
   refine (byteX HS3.out (k := xd) hx3 (by (try simp only [byte_len, half_len, none_len, word_len, long_len, zeros_len, flag_len, field_len, many_len, ask_len, bytes_len]); have := HLi.out; omega)).mono ?_
   rintro e w4 ⟨rfl, h4⟩
   obtain ⟨d0, d1, d2, d3, d4⟩ := HBx.out _ h4.fr
   have HS4 := Lib.hid h4
   clear h4 HS3
   go_wp2_with fail
   clear d0 d1 d2 d3 d4
   refine (flagX HS4.out (b := xe) (by (try simp only [byte_len, half_len, none_len, word_len, long_len, zeros_len, flag_len, field_len, many_len, ask_len, bytes_len]); have := HLi.out; omega)).mono ?_
   rintro e w5 ⟨rfl, h5⟩
   obtain ⟨d0, d1, d2, d3, d4⟩ := HBx.out _ h5.fr
   have HS5 := Lib.hid h5
   clear h5 HS4
   go_wp2_with fail
   clear d0 d1 d2 d3 d4
   refine (zerosX HS5.out (c := 2) (by (try simp only [byte_len, half_len, none_len, word_len, long_len, zeros_len, flag_len, field_len, many_len, ask_len, bytes_len]); have := HLi.out; omega)).mono ?_
   rintro e w6 ⟨rfl, h6⟩
   have HS6 := Lib.hid h6
   clear h6 HS5
   go_wp2_with fail
   go_roundw
   case rel => exact ⟨i + 1, by omega, rfl, HE.out _ (HS6.out.since HF0.out)⟩
   case measure => simp [intOf]; omega
  ·obtain rfl : i = n := by omega
   have ji : ¬ (i : Int) < (i : Int) := by omega
   have HE : Hid (eachS iqS (xs.take i) s0 = eachS iqS xs s0) := show _ = _ by rw [List.take_of_length_le (by rw [HN.out]; exact Nat.le_refl _)]
   rw [HE.out] at HI
   go_wp2_with fail
   go_end0
   exact ⟨rfl, HI.out⟩
end
end Go.Proofs.YtnifefmfhjfbnaaGreatDoor
/- Operations of a region that draws, taken by hand. Own work. -/
namespace Go.Proofs.YtnifefmfhjfbnaaGreatDoor
open Go.RowKit
theorem takeH {P : Program} {md : Region.Mode} {ops : Array Oper} {Q : Exit → Act → World → Prop} {S : World → Prop} {i d : Nat} {oi : Oper} {v : Value} {fuel : Nat} {listed : Array Bool} {a : Act} {w : World} (hi : ops[i]? = some oi) (hd : oi.dst = some d)
  (hs : Region.noSelect ops = true) (hf : Region.free md ops listed i = true) (hr : (Region.ready md ops listed).contains i = true)
  (hQ : ∀ c a w, Q (.panic c) (a.put (some d) v) w → Q (.panic c) a w) (hy : YieldsIf P ops S oi v a) (hS : S w)
  (h : wpAnyH P md ops Q S fuel (listed.setIfInBounds i true) (a.put (some d) v) w) : wpAnyH P md ops Q S (fuel + 1) listed a w := by
 rw [← hd] at h hQ
 exact wpAnyH_take hi hs hf hr hQ hy hS h
/-- a call of a Go function, whatever it answers -/
theorem step_call3 {P : Program} {ops : Array Oper} {o : Oper} {a : Act} {w : World} {K : Act → World → Prop} {Q : Exit → Act → World → Prop} {E : Prop} (hw : Region.wanted o (yielded ops a.tmps) = true)
  (f : FuncId) (xs : Array Operand) (ats : Array TypeId) (ho : o.op = .call { callee := .value (.func f), args := xs, argTypes := ats }) (he : ∀ args w, (callFunc f args).run P w = .ok (.enter f args) w) (args : Array Value) (hargs : #[] ++ xs.map a.eval ++ #[] = args) {R : Value → World → Prop}
  (hc : Calls P f args w fun e w' => ∃ v, e = .returned v ∧ R v w') (hK : ∀ v w', R v w' → K (a.put o.dst v) w') :
  if Region.wanted o (yielded ops a.tmps) = true then Oper.wp P o a w K Q else E := by
 rw [if_pos hw]
 have e1 : execOp a.eval o = callFunc f args := by
  cases o
  simp only at ho
  subst ho
  rw [← hargs]
  rfl
 unfold Oper.wp
 rw [e1, he args w]
 rw [Oper.upon_enter]
 refine hc.mono ?_
 rintro e w' ⟨v, rfl, h⟩
 exact hK v w' h
/-- one of the operations that may come next: a call -/
theorem readyCall {P : Program} {md : Region.Mode} {ops : Array Oper} {Q : Exit → Act → World → Prop} {S : World → Prop} {i d : Nat} {o : Oper} {fuel : Nat} {listed : Array Bool} {a : Act} {w : World} {rs : List Nat} (hi : ops[i]? = some o) (hd : o.dst = some d) (hw : Region.wanted o (yielded ops a.tmps) = true)
  (f : FuncId) (xs : Array Operand) (ats : Array TypeId) (ho : o.op = .call { callee := .value (.func f), args := xs, argTypes := ats }) (he : ∀ args w, (callFunc f args).run P w = .ok (.enter f args) w) (args : Array Value) (hargs : #[] ++ xs.map a.eval ++ #[] = args) {R : Value → World → Prop}
  (hc : Calls P f args w fun e w' => ∃ v, e = .returned v ∧ R v w') (hS : ∀ v w', R v w' → S w') (hK : ∀ v w', R v w' → S w' → wpAnyH P md ops Q S fuel (listed.setIfInBounds i true) (a.put (some d) v) w') (hs : AllReadyH P md ops Q S fuel listed a w rs) : AllReadyH P md ops Q S fuel listed a w (i :: rs) := by
 rw [← hd] at hK
 exact AllReadyH.cons hi (fun K hK' => step_call3 hw f xs ats ho he args hargs hc (fun v w' hR => hK'.out _ _ (hS v w' hR) (hK v w' hR))) hs
/-- one of the operations that may come next: a value is read -/
theorem readyVal {P : Program} {md : Region.Mode} {ops : Array Oper} {Q : Exit → Act → World → Prop} {S : World → Prop} {i d : Nat} {o : Oper} {fuel : Nat} {listed : Array Bool} {a : Act} {w : World} {rs : List Nat} (hi : ops[i]? = some o) (hd : o.dst = some d) (hw : Region.wanted o (yielded ops a.tmps) = true) (v : Value) (hv : (execOp a.eval o).run P w = .ok (.value v) w) (hS : S w)
  (hK : wpAnyH P md ops Q S fuel (listed.setIfInBounds i true) (a.put (some d) v) w) (hs : AllReadyH P md ops Q S fuel listed a w rs) : AllReadyH P md ops Q S fuel listed a w (i :: rs) := by
 rw [← hd] at hK
 refine AllReadyH.cons hi (fun K hK' => ?_) hs
 rw [if_pos hw]
 unfold Oper.wp
 rw [hv, Oper.upon_value]
 exact hK'.out _ _ hS (fun _ => hK)
/-- one of the operations that may come next: a store -/
theorem readySkip {P : Program} {md : Region.Mode} {ops : Array Oper} {Q : Exit → Act → World → Prop} {S : World → Prop} {i : Nat} {o : Oper} {fuel : Nat} {listed : Array Bool} {a : Act} {w w' : World} {rs : List Nat} (hi : ops[i]? = some o) (hd : o.dst = none) (hw : Region.wanted o (yielded ops a.tmps) = true) (hv : (execOp a.eval o).run P w = .ok .skip w') (hS : S w')
  (hK : wpAnyH P md ops Q S fuel (listed.setIfInBounds i true) a w') (hs : AllReadyH P md ops Q S fuel listed a w rs) : AllReadyH P md ops Q S fuel listed a w (i :: rs) := by
 refine AllReadyH.cons hi (fun K hK' => ?_) hs
 rw [if_pos hw]
 unfold Oper.wp
 rw [hv, Oper.upon_skip, hd]
 exact hK'.out _ _ hS (fun _ => hK)
end Go.Proofs.YtnifefmfhjfbnaaGreatDoor
