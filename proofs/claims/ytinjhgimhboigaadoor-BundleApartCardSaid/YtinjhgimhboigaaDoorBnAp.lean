/- Bundle: two images have the same bytes just if they are alike: the law. Own work. -/
import Derived.Test.YtinjhgimhboigaaDoorBnSm
import Derived.Test.YtinjhgimhboigaaDoorBnSb
import Derived.Test.YtinjhgimhboigaaDoorBnEnc
namespace Go.Proofs.YtinjhgimhboigaaDoor
open Go.RowKit Bn
set_option linter.unusedVariables false
set_option linter.unusedSimpArgs false
theorem SmA.below {w w' : World} {B : Nat} {m : Bool} (h : SmA w B m) (hb : Below w.heap.size w w') : SmA w' B m := by
  have k : ∀ {i : Nat} {o : Obj}, w.heap[i]? = some o → w'.heap[i]? = some o := fun {i o} hi => (hb.block i (Array.getElem?_eq_some_iff.1 hi).1).trans hi
  exact ⟨k h.h1, k h.h2, k h.h3, k h.h4, k h.h5, k h.h6, k h.h7, k h.h8, k h.h9, k h.h10, k h.h11⟩
theorem SmA.mask {w : World} {B : Nat} (h : SmA w B true) : SmA (w.setCell ⟨B + 7, 4, none⟩ (.bool false)) B false := by
  have k : ∀ {i : Nat} {o : Obj}, i ≠ B + 7 → w.heap[i]? = some o → (w.setCell ⟨B + 7, 4, none⟩ (.bool false)).heap[i]? = some o := fun {i o} hn hi => (Below.heap_setCell _ _ _ _ hn).trans hi
  refine ⟨k (by omega) h.h1, k (by omega) h.h2, k (by omega) h.h3, k (by omega) h.h4, k (by omega) h.h5, k (by omega) h.h6, ?_, k (by omega) h.h8, k (by omega) h.h9, k (by omega) h.h10, k (by omega) h.h11⟩
  have h7 := h.h7
  simp [World.setCell, Array.getElem?_modify, h7]
theorem row_bytes {w : World} {g : Nat} {zs : List Nat} (h : Row w g zs) (hl : zs.length ≤ maxLen) : RowG 1 ubE w (.slice (some ⟨g, 0, none⟩) zs.length zs.length) zs :=
  ⟨_, _, rfl, Nat.le_refl _, hl, fun i hi => ⟨g, 0, rfl, (Array.getElem?_eq_some_iff.1 h).1, fun j hj => by
    have h0 : j = 0 := by omega
    subst h0
    rw [cell_of_row _ _ _ _ _ _ h]
    simp [bvs, ubE, hi]⟩⟩
theorem im_load {w : World} {b : Nat} {im : List Value} (h : w.heap[b]? = some (.cells im.toArray 33 (0, 0))) (hi : (Tryd.prog.info? 33).map (·.size) = some im.toArray.size) : (Instr.loadAt 33 (.pointer (some ⟨b, 0, none⟩))).run Tryd.prog w = .ok (.agg im.toArray) w := by
  have := run_loadAt_mid (P := Tryd.prog) w b 0 33 im _ (fun j v hv => by
    rw [cell_of_row _ _ _ _ _ _ h, Nat.zero_add]
    simpa using hv) Tryd.underlying33 rfl (by simpa using hi)
  exact this
theorem im_ok {w : World} {im : List Value} {I : Im} (h : ImA w im I) : ImK I := by
  obtain ⟨_, _, _, r⟩ := h.rams
  obtain ⟨_, _, _, d⟩ := h.devs
  obtain ⟨_, _, _, g⟩ := h.regs
  obtain ⟨_, _, _, t⟩ := h.tabs
  exact ⟨h.base.2, r, d, g, t⟩
theorem why_zero {I : Im} (h : (sizeF I).2 = 0) : (stN I 9).2 = 0 := by
  unfold sizeF at h
  split at h
  · exact h
  · rename_i h'
    exact Decidable.of_not_not h'
theorem load_exec {o : Oper} {a : Act} {w : World} {ty : TypeId} {x : Operand} (ho : o.op = .load ty x) {p V : Value} (hx : a.eval x = p) (hl : (Instr.loadAt ty p).run Tryd.prog w = .ok V w) : (execOp a.eval o).run Tryd.prog w = .ok (.value V) w := by
  unfold execOp
  simp only [ho, hx, Sem.run_bind, Sem.run_pure, Result.andThen_ok, hl]
/-- the law's answer -/
def AP (w : World) (e : Ending) (w' : World) : Prop := e = .returned (.bool true) ∧ Below w.heap.size w w'
theorem AP.yes {w w' : World} (h : Below w.heap.size w w') : AP w (.returned (.bool true)) w' := ⟨rfl, h⟩
theorem enc_le {I : Im} (h : szI I ≤ 20000000000) : (encF I).length ≤ maxLen := by
  have h1 := stN_le I 9
  have h2 : 9 * (szI I + 4096) ≤ 9 * (20000000000 + 4096) := Nat.mul_le_mul (Nat.le_refl _) (by omega)
  unfold maxLen
  rw [encF, List.length_append, hdF_len, List.length_drop]
  omega
set_option maxRecDepth 100000 in
set_option maxHeartbeats 16000000 in
theorem apart_walk {w : World} {ui vi : List Value} {I J : Im} (ht : Tab w) (hI : ImW w ui I) (hJ : ImW w vi J) : Calls Tryd.prog 3 #[.agg ui.toArray, .agg vi.toArray] w (AP w) := by
  have HInu := Lib.hid (info_im hI.len)
  have HInv := Lib.hid (info_im hJ.len)
  obtain ⟨B0, hB0⟩ : ∃ B, w.heap.size = B := ⟨_, rfl⟩
  have HT := Lib.hid ht
  have HI := Lib.hid hI
  have HJ := Lib.hid hJ
  clear ht hI hJ
  go_enter Tryd.func3, Tryd.ntmps3
  go_upto_region 1 with fail
  have s1 : (w.alloc (.cells ui.toArray 33)).heap.size = B0 + 1 := by simp [hB0]
  have HBw : Hid (Below B0 w ((w.alloc (.cells ui.toArray 33)).alloc (.cells vi.toArray 33))) := ((Below.refl _ _).alloc (by omega) _).alloc (by rw [s1]; omega) _
  have hX2 : Hid (((w.alloc (.cells ui.toArray 33)).alloc (.cells vi.toArray 33)).heap[B0]? = some (.cells ui.toArray 33 (0, 0))) := (Below.heap_alloc _ _ B0 (by rw [s1]; omega)).trans (by rw [← hB0]; exact heap_alloc_new w _)
  have hX3 : Hid (((w.alloc (.cells ui.toArray 33)).alloc (.cells vi.toArray 33)).heap[B0 + 1]? = some (.cells vi.toArray 33 (0, 0))) := by
    have := heap_alloc_new (w.alloc (.cells ui.toArray 33)) (.cells vi.toArray 33)
    rw [s1] at this
    exact this
  clear s1
  generalize ((w.alloc (.cells ui.toArray 33)).alloc (.cells vi.toArray 33)) = W0 at *
  go_wp2_with fail
  refine smallX.mono ?_
  rintro e w1 ⟨rfl, hs1, hz1, hb1⟩
  obtain ⟨B1, hB1⟩ : ∃ B, W0.heap.size = B := ⟨_, rfl⟩
  rw [hB1] at hs1 hz1 hb1 ⊢
  obtain ⟨k5, hk5⟩ : ∃ B, w1.heap.size = B := ⟨_, rfl⟩
  have HS1 := Lib.hid hs1
  have HB1 := Lib.hid hb1
  have k0 : Hid ((w1.alloc (.cells #[.int .u64 0, .slice none 0 0, .slice none 0 0, .slice none 0 0, .slice none 0 0, .slice none 0 0, .slice none 0 0, .slice none 0 0, .slice none 0 0, .int .i64 0, .int .i64 0, .slice none 0 0] 33)).heap[k5]? = some (.cells #[.int .u64 0, .slice none 0 0, .slice none 0 0, .slice none 0 0, .slice none 0 0, .slice none 0 0, .slice none 0 0, .slice none 0 0, .slice none 0 0, .int .i64 0, .int .i64 0, .slice none 0 0] 33 (0, 0))) := by
    have := heap_alloc_new w1 (.cells #[.int .u64 0, .slice none 0 0, .slice none 0 0, .slice none 0 0, .slice none 0 0, .slice none 0 0, .slice none 0 0, .slice none 0 0, .slice none 0 0, .int .i64 0, .int .i64 0, .slice none 0 0] 33)
    rw [hk5] at this
    exact this
  have hk5b : B1 + 12 = k5 := hz1.out.symm.trans hk5
  clear hs1 hb1 hz1
  go_upto_region 2 with (refine wpList_store_row rfl 33 (.tmp 5) (.tmp 10) rfl k5 (smIm B1).toArray rfl rfl _ _ k0.out (by kernel_rfl) (by rfl) (smIm_one B1) ?_)
  have HX5 : Hid (((w1.alloc (.cells #[.int .u64 0, .slice none 0 0, .slice none 0 0, .slice none 0 0, .slice none 0 0, .slice none 0 0, .slice none 0 0, .slice none 0 0, .slice none 0 0, .int .i64 0, .int .i64 0, .slice none 0 0] 33)).setRow k5 (smIm B1).toArray).heap[k5]? = some (.cells (smIm B1).toArray 33 (0, 0))) := setRow_heap _ _ _ _ _ _ k0.out
  have hBa : Below w1.heap.size w1 ((w1.alloc (.cells #[.int .u64 0, .slice none 0 0, .slice none 0 0, .slice none 0 0, .slice none 0 0, .slice none 0 0, .slice none 0 0, .slice none 0 0, .slice none 0 0, .int .i64 0, .int .i64 0, .slice none 0 0] 33)).setRow k5 (smIm B1).toArray) := ((Below.refl _ _).alloc (Nat.le_refl _) _).trans (below_setRow _ _ _ _ (by omega))
  have HS2 := Lib.hid (HS1.out.below hBa)
  have HB2 := Lib.hid (HB1.out.trans (hBa.mono (by omega)))
  clear hBa k0 HS1 HB1
  generalize ((w1.alloc (.cells #[.int .u64 0, .slice none 0 0, .slice none 0 0, .slice none 0 0, .slice none 0 0, .slice none 0 0, .slice none 0 0, .slice none 0 0, .slice none 0 0, .int .i64 0, .int .i64 0, .slice none 0 0] 33)).setRow k5 (smIm B1).toArray) = W2 at *
  have c7 : W2.cell? ⟨k5, 7, none⟩ = some (.slice (some ⟨B1 + 7, 0, none⟩) 1 1) := (cell_of_row _ _ _ _ _ _ HX5.out).trans rfl
  have c4 : W2.cell? ⟨B1 + 7, 4, none⟩ = some (.bool true) := (cell_of_row _ _ _ _ _ _ HS2.out.h7).trans rfl
  have f4 : W2.frozen? ⟨B1 + 7, 4, none⟩ = false := by
    have h7 := HS2.out.h7
    simp [World.frozen?, h7]
  go_upto_region 3 with fail
  have HS3 := Lib.hid HS2.out.mask
  have HB3 : Hid (Below B1 W0 (W2.setCell ⟨B1 + 7, 4, none⟩ (.bool false))) := HB2.out.setCell (p := ⟨B1 + 7, 4, none⟩) (by show B1 ≤ B1 + 7; omega) _
  have HX5' : Hid ((W2.setCell ⟨B1 + 7, 4, none⟩ (.bool false)).heap[k5]? = some (.cells (smIm B1).toArray 33 (0, 0))) := (Below.heap_setCell _ _ _ _ (by show k5 ≠ B1 + 7; omega)).trans HX5.out
  clear HX5 HS2 HB2 c7 c4 f4 hk5
  generalize (W2.setCell ⟨B1 + 7, 4, none⟩ (.bool false)) = W3 at *
  have hlt0 : B0 + 1 < B1 := by
    have := (Array.getElem?_eq_some_iff.1 hX3.out).1
    omega
  have HX2 : Hid (W3.heap[B0]? = some (.cells ui.toArray 33 (0, 0))) := (HB3.out.block B0 (by omega)).trans hX2.out
  have HX3 : Hid (W3.heap[B0 + 1]? = some (.cells vi.toArray 33 (0, 0))) := (HB3.out.block (B0 + 1) hlt0).trans hX3.out
  have HW3 : Hid (Below w.heap.size w W3) := by
    rw [hB0]
    exact HBw.out.trans (HB3.out.mono (by omega))
  clear hX2 hX3 HBw HB3
  have HT3 := Lib.hid (HT.out.below HW3.out)
  have HI3 := Lib.hid (HI.out.below HW3.out)
  have HJ3 := Lib.hid (HJ.out.below HW3.out)
  clear HT HI HJ
  go_wp2_with fail
  refine smallX.mono ?_
  rintro e w4 ⟨rfl, hs4, hz4, hb4⟩
  clear hz4
  have HS4 := Lib.hid hs4
  have HB4 := Lib.hid hb4
  clear hs4 hb4
  generalize W3.heap.size = B4 at HS4 ⊢
  go_wp2_with fail
  refine (encodeX HS4.out.im (HT3.out.below HB4.out) (Nat.le_trans (small_sz _) (by decide))).mono ?_
  rintro e w5 ⟨he, hb5⟩
  rcases he with ⟨hn, _⟩ | ⟨_, ga, rfl, _, hra⟩
  · exact absurd (small_size true) hn
  have HB5 : Hid (Below W3.heap.size W3 w5) := HB4.out.trans (hb5.mono HB4.out.size)
  have HRa := Lib.hid hra
  clear hb5 hra HB4 HS4
  obtain ⟨na, hna⟩ : ∃ n, (encF (smallI true)).length = n := ⟨_, rfl⟩
  have HNa := Lib.hid hna
  rw [hna]
  clear hna
  have HX5b : Hid (w5.heap[k5]? = some (.cells (smIm B1).toArray 33 (0, 0))) := (HB5.out.block k5 (Array.getElem?_eq_some_iff.1 HX5'.out).1).trans HX5'.out
  go_wp2_with (refine wpList_load_arr rfl 33 (.tmp 5) rfl (b := k5) (g := (smIm B1).toArray) rfl HX5b.out Tryd.underlying33 rfl (by kernel_rfl) ?_)
  refine (encodeX (HS3.out.below HB5.out).im (HT3.out.below HB5.out) (Nat.le_trans (small_sz _) (by decide))).mono ?_
  rintro e w6 ⟨he, hb6⟩
  rcases he with ⟨hn, _⟩ | ⟨_, gb, rfl, _, hrb⟩
  · exact absurd (small_size false) hn
  have HB6 : Hid (Below W3.heap.size W3 w6) := HB5.out.trans (hb6.mono HB5.out.size)
  have HRa6 : Hid (Row w6 ga (encF (smallI true))) := (hb6.block ga (Array.getElem?_eq_some_iff.1 HRa.out).1).trans HRa.out
  have HRb := Lib.hid hrb
  clear hb6 hrb HB5 HRa HX5b
  obtain ⟨nb, hnb⟩ : ∃ n, (encF (smallI false)).length = n := ⟨_, rfl⟩
  have HNb := Lib.hid hnb
  rw [hnb]
  clear hnb
  have HC : Hid (Calls Tryd.prog 6 #[.slice (some ⟨ga, 0, none⟩) na na, .slice (some ⟨gb, 0, none⟩) nb nb] w6 (YN (encF (smallI true) = encF (smallI false)) w6)) := by
    have h1 := row_bytes HRa6.out (enc_le (Nat.le_trans (small_sz _) (by decide)))
    have h2 := row_bytes HRb.out (enc_le (Nat.le_trans (small_sz _) (by decide)))
    rw [HNa.out] at h1
    rw [HNb.out] at h2
    exact sameBytesX h1 h2
  clear HRa6 HRb
  go_wp2_with fail
  refine HC.out.mono ?_
  rintro e w7 ⟨r, rfl, hr, hb7⟩
  cases r with
  | true => exact absurd (hr.1 rfl) small_apart
  | false =>
  have HB7 : Hid (Below W3.heap.size W3 w7) := HB6.out.trans (hb7.mono HB6.out.size)
  clear hb7 HB6 hr HC
  have HX2b : Hid (w7.heap[B0]? = some (.cells ui.toArray 33 (0, 0))) := (HB7.out.block B0 (Array.getElem?_eq_some_iff.1 HX2.out).1).trans HX2.out
  go_wp2_with (refine wpList_load_arr rfl 33 (.tmp 2) rfl (b := B0) (g := ui.toArray) rfl HX2b.out Tryd.underlying33 rfl HInu.out ?_)
  refine (heavyX (HI3.out.below HB7.out)).mono ?_
  rintro e w8 ⟨r, rfl, hr, hb8⟩
  have HB8 : Hid (Below W3.heap.size W3 w8) := HB7.out.trans (hb8.mono HB7.out.size)
  clear hb8 HB7 HX2b
  cases r with
  | true =>
    clear hr
    go_wp2_with fail
    go_ret
    exact AP.yes (HW3.out.trans (HB8.out.mono HW3.out.size))
  | false =>
  have HFi := Lib.hid (hr rfl)
  clear hr
  have HX3b : Hid (w8.heap[B0 + 1]? = some (.cells vi.toArray 33 (0, 0))) := (HB8.out.block (B0 + 1) (Array.getElem?_eq_some_iff.1 HX3.out).1).trans HX3.out
  have lv : (Instr.loadAt 33 (.pointer (some ⟨B0 + 1, 0, none⟩))).run Tryd.prog w8 = .ok (.agg vi.toArray) w8 := im_load HX3b.out HInv.out
  go_wp2_with (refine wpList_load_tyG (by kernel_rfl) 33 (.tmp 3) rfl rfl lv ?_)
  refine (heavyX (HJ3.out.below HB8.out)).mono ?_
  rintro e w9 ⟨r, rfl, hr, hb9⟩
  have HB9 : Hid (Below W3.heap.size W3 w9) := HB8.out.trans (hb9.mono HB8.out.size)
  clear hb9 HB8 HX3b lv
  cases r with
  | true =>
    clear hr
    go_wp2_with fail
    go_ret
    exact AP.yes (HW3.out.trans (HB9.out.mono HW3.out.size))
  | false =>
  have HFj := Lib.hid (hr rfl)
  clear hr
  have HX2b : Hid (w9.heap[B0]? = some (.cells ui.toArray 33 (0, 0))) := (HB9.out.block B0 (Array.getElem?_eq_some_iff.1 HX2.out).1).trans HX2.out
  have HAi := Lib.hid (HI3.out.a HFi.out)
  have HAj := Lib.hid (HJ3.out.a HFj.out)
  have HZi := Lib.hid (szI_le HFi.out)
  have HZj := Lib.hid (szI_le HFj.out)
  have HKi : Hid (ImK I) := im_ok HAi.out
  have HKj : Hid (ImK J) := im_ok HAj.out
  clear HFi HFj HI3 HJ3
  go_wp2_with (refine wpList_load_arr rfl 33 (.tmp 2) rfl (b := B0) (g := ui.toArray) rfl HX2b.out Tryd.underlying33 rfl HInu.out ?_)
  refine (encodeX (HAi.out.below HB9.out) (HT3.out.below HB9.out) HZi.out).mono ?_
  rintro e w10 ⟨he, hb10⟩
  have HB10 : Hid (Below W3.heap.size W3 w10) := HB9.out.trans (hb10.mono HB9.out.size)
  have HX3b : Hid (w10.heap[B0 + 1]? = some (.cells vi.toArray 33 (0, 0))) := (HB10.out.block (B0 + 1) (Array.getElem?_eq_some_iff.1 HX3.out).1).trans HX3.out
  clear hb10 HB9 HX2b
  rcases he with ⟨hy, rfl⟩ | ⟨hy, ga, rfl, _, hra⟩
  · generalize (sizeF I).2 = y at *
    go_wp2_with (refine wpList_load_arr rfl 33 (.tmp 3) rfl (b := B0 + 1) (g := vi.toArray) rfl HX3b.out Tryd.underlying33 rfl HInv.out ?_)
    refine (encodeX (HAj.out.below HB10.out) (HT3.out.below HB10.out) HZj.out).mono ?_
    rintro e w11 ⟨he, hb11⟩
    have HB11 : Hid (Below W3.heap.size W3 w11) := HB10.out.trans (hb11.mono HB10.out.size)
    clear hb11 HB10 HX3b
    rcases he with ⟨_, rfl⟩ | ⟨_, gb, rfl, _, _⟩
    · generalize (sizeF J).2 = y2 at *
      go_wp2_with fail
      go_ret
      exact AP.yes (HW3.out.trans (HB11.out.mono HW3.out.size))
    · go_wp2_with fail
      go_ret
      exact AP.yes (HW3.out.trans (HB11.out.mono HW3.out.size))
  · have HRa := Lib.hid hra
    have HYi := Lib.hid hy
    clear hra hy
    obtain ⟨ni, hni⟩ : ∃ n, (encF I).length = n := ⟨_, rfl⟩
    have HNi := Lib.hid hni
    rw [hni]
    clear hni
    go_wp2_with (refine wpList_load_arr rfl 33 (.tmp 3) rfl (b := B0 + 1) (g := vi.toArray) rfl HX3b.out Tryd.underlying33 rfl HInv.out ?_)
    refine (encodeX (HAj.out.below HB10.out) (HT3.out.below HB10.out) HZj.out).mono ?_
    rintro e w11 ⟨he, hb11⟩
    have HB11 : Hid (Below W3.heap.size W3 w11) := HB10.out.trans (hb11.mono HB10.out.size)
    have HRa' : Hid (Row w11 ga (encF I)) := (hb11.block ga (Array.getElem?_eq_some_iff.1 HRa.out).1).trans HRa.out
    clear hb11 HB10 HX3b HRa
    rcases he with ⟨hy, rfl⟩ | ⟨hy, gb, rfl, _, hrb⟩
    · generalize (sizeF J).2 = y2 at *
      go_wp2_with fail
      go_ret
      exact AP.yes (HW3.out.trans (HB11.out.mono HW3.out.size))
    · have HRb := Lib.hid hrb
      have HYj := Lib.hid hy
      clear hrb hy
      obtain ⟨nj, hnj⟩ : ∃ n, (encF J).length = n := ⟨_, rfl⟩
      have HNj := Lib.hid hnj
      rw [hnj]
      clear hnj
      have HSb : Hid (∀ W, Below w11.heap.size w11 W → Calls Tryd.prog 6 #[.slice (some ⟨ga, 0, none⟩) ni ni, .slice (some ⟨gb, 0, none⟩) nj nj] W (YN (encF I = encF J) W)) := fun W hW => by
        have h1 := row_bytes HRa'.out (enc_le HZi.out)
        have h2 := row_bytes HRb.out (enc_le HZj.out)
        rw [HNi.out] at h1
        rw [HNj.out] at h2
        exact sameBytesX (h1.below hW) (h2.below hW)
      have HSi : Hid (∀ W, Below w11.heap.size w11 W → Calls Tryd.prog 8 #[.agg ui.toArray, .agg vi.toArray] W (YN (alike I J) W)) := fun W hW => sameX ((HAi.out.below HB11.out).below hW) ((HAj.out.below HB11.out).below hW)
      have HX2c : Hid (∀ W, Below w11.heap.size w11 W → W.heap[B0]? = some (.cells ui.toArray 33 (0, 0))) := fun W hW => by
        have h := (HB11.out.block B0 (Array.getElem?_eq_some_iff.1 HX2.out).1).trans HX2.out
        exact (hW.block B0 (Array.getElem?_eq_some_iff.1 h).1).trans h
      have HX3c : Hid (∀ W, Below w11.heap.size w11 W → W.heap[B0 + 1]? = some (.cells vi.toArray 33 (0, 0))) := fun W hW => by
        have h := (HB11.out.block (B0 + 1) (Array.getElem?_eq_some_iff.1 HX3.out).1).trans HX3.out
        exact (hW.block (B0 + 1) (Array.getElem?_eq_some_iff.1 h).1).trans h
      have HEnd : Hid (∀ W, Below w11.heap.size w11 W → Below w.heap.size w W) := fun W hW => HW3.out.trans ((HB11.out.trans (hW.mono HB11.out.size)).mono HW3.out.size)
      have HIff : Hid (encF I = encF J ↔ alike I J) := ⟨fun h => enc_inj HKi.out HKj.out (why_zero HYi.out) (why_zero HYj.out) h, enc_same⟩
      clear HRa' HRb HAi HAj HZi HZj HKi HKj HYi HYj HX2 HX3 HB11 HW3 HT3
      have HEs := Lib.hid (enters_of Tryd.func6 (by kernel_rfl) rfl)
      have HEt := Lib.hid (enters_of Tryd.func8 (by kernel_rfl) rfl)
      go_upto_region 13 with fail
      refine wp_region_held_drew (S := fun W => Below w11.heap.size w11 W) (by kernel_rfl) (Below.refl _ _).drew (fun hHeld => ?_)
      simp only [List.size_toArray, List.length_cons, List.length_nil]
      refine takeH (i := 0) (d := 58) (v := Value.slice (some ⟨ga, 0, none⟩) ni ni) rfl rfl (by kernel_rfl) (by kernel_rfl) (by kernel_rfl) (fun _ _ _ h => h) (Or.inl ⟨by kernel_rfl, by intro W hSw; (try dsimp only at hSw); go_simp⟩) hHeld ?_
      simp only [Act.put, List.setIfInBounds_toArray, List.set_cons_zero, List.set_cons_succ]
      refine takeH (i := 1) (d := 59) (v := Value.slice (some ⟨gb, 0, none⟩) nj nj) rfl rfl (by kernel_rfl) (by kernel_rfl) (by kernel_rfl) (fun _ _ _ h => h) (Or.inl ⟨by kernel_rfl, by intro W hSw; (try dsimp only at hSw); go_simp⟩) hHeld ?_
      simp only [Act.put, List.setIfInBounds_toArray, List.set_cons_zero, List.set_cons_succ]
      refine takeH (i := 3) (d := 61) (v := Value.agg ui.toArray) rfl rfl (by kernel_rfl) (by kernel_rfl) (by kernel_rfl) (fun _ _ _ h => h) (Or.inl ⟨by kernel_rfl, by intro W hSw; (try dsimp only at hSw); exact load_exec (x := .tmp 2) rfl rfl (im_load (HX2c.out W hSw) HInu.out)⟩) hHeld ?_
      simp only [Act.put, List.setIfInBounds_toArray, List.set_cons_zero, List.set_cons_succ]
      refine takeH (i := 4) (d := 62) (v := Value.agg vi.toArray) rfl rfl (by kernel_rfl) (by kernel_rfl) (by kernel_rfl) (fun _ _ _ h => h) (Or.inl ⟨by kernel_rfl, by intro W hSw; (try dsimp only at hSw); exact load_exec (x := .tmp 3) rfl rfl (im_load (HX3c.out W hSw) HInv.out)⟩) hHeld ?_
      simp only [Act.put, List.setIfInBounds_toArray, List.set_cons_zero, List.set_cons_succ]
      refine wpAnyH_ready (rs := [2]) (by kernel_rfl) (by simp) ?_
      refine readyCall (i := 2) (d := 60) rfl rfl (by kernel_rfl) 6 _ _ rfl HEs.out _ (by simp [Act.eval]) (R := fun v w' => ∃ r : Bool, v = .bool r ∧ (r = true ↔ encF I = encF J) ∧ Below w11.heap.size w11 w') ((HSb.out _ hHeld).mono (fun e w' ⟨r, h1, h2, h3⟩ => ⟨_, h1, r, rfl, h2, hHeld.trans (h3.mono hHeld.size)⟩)) (fun v w' ⟨_, _, _, h⟩ => h) ?_ AllReadyH.nil
      rintro v w12 ⟨r1, rfl, hr1, _⟩ hHeld
      simp only [Act.put, List.setIfInBounds_toArray, List.set_cons_zero, List.set_cons_succ]
      refine wpAnyH_ready (rs := [5]) (by kernel_rfl) (by simp) ?_
      refine readyCall (i := 5) (d := 63) rfl rfl (by kernel_rfl) 8 _ _ rfl HEt.out _ (by simp [Act.eval]) (R := fun v w' => ∃ r : Bool, v = .bool r ∧ (r = true ↔ alike I J) ∧ Below w11.heap.size w11 w') ((HSi.out _ hHeld).mono (fun e w' ⟨r, h1, h2, h3⟩ => ⟨_, h1, r, rfl, h2, hHeld.trans (h3.mono hHeld.size)⟩)) (fun v w' ⟨_, _, _, h⟩ => h) ?_ AllReadyH.nil
      rintro v w13 ⟨r2, rfl, hr2, _⟩ hHeld
      simp only [Act.put, List.setIfInBounds_toArray, List.set_cons_zero, List.set_cons_succ]
      have h12 : r1 = r2 := by
        have h := hr1.trans (HIff.out.trans hr2.symm)
        cases r1 <;> cases r2 <;> simp at h ⊢
      subst h12
      clear hr1 hr2
      refine takeH (i := 6) (d := 64) (v := Value.bool true) rfl rfl (by kernel_rfl) (by kernel_rfl) (by kernel_rfl) (fun _ _ _ h => h) (Or.inl ⟨by kernel_rfl, by intro W hSw; (try dsimp only at hSw); cases r1 <;> go_simp⟩) hHeld ?_
      simp only [Act.put, List.setIfInBounds_toArray, List.set_cons_zero, List.set_cons_succ]
      refine takeH (i := 7) (d := 4) (v := Value.bool true) rfl rfl (by kernel_rfl) (by kernel_rfl) (by kernel_rfl) (fun _ _ _ h => h) (Or.inl ⟨by kernel_rfl, by intro W hSw; (try dsimp only at hSw); go_simp⟩) hHeld ?_
      simp only [Act.put, List.setIfInBounds_toArray, List.set_cons_zero, List.set_cons_succ]
      have HE9 := Lib.hid (HEnd.out _ hHeld)
      clear hHeld
      refine wpAnyH_done (by kernel_rfl) ?_ _
      go_wp2_with fail
      go_ret
      exact AP.yes HE9.out
end Go.Proofs.YtinjhgimhboigaaDoor
