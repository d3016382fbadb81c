/- The document's own access; its Load of a byte where nothing was laid. Own work. -/
import Derived.Test.YtmaahompmgmkfaaGreatRgOff
import Derived.Test.YtmaahompmgmkfaaGreatBAcc
import Derived.Test.YtmaahompmgmkfaaGreatBNew
import Derived.Handy
import Derived.LoopN
namespace Go.Proofs.YtmaahompmgmkfaaGreat
open Go.RowKit Go.Maps Go.Proofs.YtmaahompmgmkfaaGreat.Sp
/-- the document's own Fault in its box -/
def BoxG (w : World) (b : Nat) (x y : Int) : Prop := w.heap[b]? = some (.cells #[.int .i64 x, .int .u64 y] 60 (0, 0))
theorem BoxG.cells {w : World} {b : Nat} {x y : Int} (h : BoxG w b x y) : w.cell? ⟨b, 0, none⟩ = some (.int .i64 x) ∧ w.cell? ⟨b, 1, none⟩ = some (.int .u64 y) ∧ w.frozen? ⟨b, 0, none⟩ = false ∧ w.frozen? ⟨b, 1, none⟩ = false := by
  refine ⟨?_, ?_, by simp [World.frozen?, show w.heap[b]? = _ from h], by simp [World.frozen?, show w.heap[b]? = _ from h]⟩ <;> rw [cell_of_row w b _ _ _ _ h] <;> rfl
theorem BoxG.set {w : World} {b : Nat} {x y : Int} (h : BoxG w b x y) (x' y' : Int) : BoxG ((w.setCell ⟨b, 0, none⟩ (.int .i64 x')).setCell ⟨b, 1, none⟩ (.int .u64 y')) b x' y' := by
  have h' : w.heap[b]? = _ := h
  simp [BoxG, World.setCell, Array.getElem?_modify, h']
theorem BoxG.lt {w : World} {b : Nat} {x y : Int} (h : BoxG w b x y) : b < w.heap.size := (Array.getElem?_eq_some_iff.1 h).1
theorem BoxG.below {w w' : World} {b : Nat} {x y : Int} (h : BoxG w b x y) (hb : Below w.heap.size w w') : BoxG w' b x y := (hb.block b h.lt).trans h
theorem BoxG.keeps {Z : Nat → Prop} {w w' : World} {b : Nat} {x y : Int} (h : BoxG w b x y) (hk : Keeps Z w w') (hn : ¬ Z b) : BoxG w' b x y := (hk.block b h.lt hn).trans h
theorem BoxG.new (w : World) (x y : Int) : BoxG (w.alloc (Obj.cells #[.int .i64 x, .int .u64 y] 60)) w.heap.size x y := heap_alloc_new w _
/-- what the document's own access answers -/
def RAsk (w : World) (m : Nat) (vr vd vp : Value) (LL : List Sp) (L S X a n : Nat) (e : Ending) (w' : World) : Prop :=
  ∃ x b, OffR LL a n x b ∧ e = .returned (FaultV (if b then 30 else 0) x) ∧ RBox w' m vr vd vp L S (up b X) ∧ Keeps (fun j => j = m) w w'
set_option maxRecDepth 100000 in
set_option maxHeartbeats 4000000 in
theorem raccess_any {w : World} {m : Nat} {vr vd vp : Value} {rs ds : List Sp} {L S X a n : Nat} (h : RBox w m vr vd vp L S X) (hr : U64.SV w vr rs) (hd : U64.SV w vd ds) (hs : Sane (rs ++ ds)) (hl : rs.length + ds.length ≤ 64) (ha : a ≤ 18446744073709551615) (hn : n ≤ 9223372036854775807) (hX : X ≤ 4611686018427387904) :
    Calls Tryz.prog 37 #[.pointer (some ⟨m, 0, none⟩), .int .u64 (a : Int), .int .i64 (n : Int)] w (RAsk w m vr vd vp (rs ++ ds) L S X a n) := by
  have HM : Hid (RBox w m vr vd vp L S X) := h
  have HO : Hid (∀ W, Below w.heap.size w W → Calls Tryz.prog 59 #[.pointer (some ⟨m, 0, none⟩), .int .u64 (a : Int), .int .i64 (n : Int)] W fun e w' => OffE (rs ++ ds) a n e ∧ Below W.heap.size W w') := fun W hW => roff_any (h.below hW) (hr.below hW (Nat.le_refl _)) (hd.below hW (Nat.le_refl _)) hs hl ha hn
  generalize rs ++ ds = LL at *
  clear h hr hd hs hl
  go_enter Tryz.func37, Tryz.ntmps37
  go_wp2_with fail
  refine (HO.out _ ((Below.refl _ _).alloc (Nat.le_refl _) _)).mono ?_
  rintro e w1 ⟨⟨x, b, rfl, ho⟩, hb1⟩
  have HOff : Hid (OffR LL a n x b) := ho
  have HB1 : Hid (Below w.heap.size w w1) := ((Below.refl _ _).alloc (Nat.le_refl _) _).trans (hb1.mono (by simp))
  have HX1 : Hid (BoxG w1 w.heap.size 0 0) := (BoxG.new w 0 0).below hb1
  have HM1 : Hid (RBox w1 m vr vd vp L S X) := HM.out.below HB1.out
  obtain ⟨x0, x1, f0, f1⟩ := HX1.out.cells
  obtain ⟨_, _, _, _, _, c5⟩ := HM1.out.cells
  have g5 := HM1.out.thawed 5
  have hml := HM.out.lt
  clear ho hb1 HO
  cases b with
  | false =>
    go_wp2_with fail
    obtain ⟨d0, d1, _⟩ := (HX1.out.set 0 0).cells
    refine bodyPost_ret (v := .agg #[.int .i64 0, .int .u64 0]) (by simp [results, Tryz.results37, go_sem, d0, d1]) rfl ?_
    have hb2 := (HB1.out.setCell (p := ⟨w.heap.size, 0, none⟩) (Nat.le_refl _) (.int .i64 0)).setCell (p := ⟨w.heap.size, 1, none⟩) (Nat.le_refl _) (.int .u64 0)
    refine ⟨x, false, HOff.out, ?_, HM.out.below hb2, Keeps.of_below hb2⟩
    rw [(HOff.out.2 rfl).1]
    rfl
  | true =>
    have hb3 : BoxG (w1.setCell ⟨m, 5, none⟩ (.int .i64 ((X : Int) + 1))) w.heap.size 0 0 := HX1.out.keeps (Keeps.setCell _ _ _ _) (by omega)
    have HX3 : Hid (BoxG (w1.setCell ⟨m, 5, none⟩ (.int .i64 ((X : Int) + 1))) w.heap.size 0 0) := hb3
    obtain ⟨y0, y1, k0, k1⟩ := hb3.cells
    clear hb3
    go_wp2_with fail
    obtain ⟨d0, d1, _⟩ := (HX3.out.set 30 x).cells
    refine bodyPost_ret (v := .agg #[.int .i64 30, .int .u64 x]) (by simp [results, Tryz.results37, go_sem, d0, d1]) rfl ?_
    have hk : Keeps (fun j => j = m) w (((w1.setCell ⟨m, 5, none⟩ (.int .i64 ((X : Int) + 1))).setCell ⟨w.heap.size, 0, none⟩ (.int .i64 30)).setCell ⟨w.heap.size, 1, none⟩ (.int .u64 x)) :=
      (((Keeps.of_below (S := fun j => j = m) HB1.out).trans (Keeps.setCell _ _ _ _) (fun _ _ e => e)).trans (Keeps.setCell _ _ _ _) (fun i hi e => absurd e (by omega))).trans (Keeps.setCell _ _ _ _) (fun i hi e => absurd e (by omega))
    refine ⟨x, true, HOff.out, rfl, ?_, hk⟩
    unfold RBox
    rw [Below.heap_setCell _ _ _ _ (show m ≠ w.heap.size by omega), Below.heap_setCell _ _ _ _ (show m ≠ w.heap.size by omega)]
    have h1 : w1.heap[m]? = _ := HM1.out
    simp only [World.setCell, Array.getElem?_modify]
    rw [if_pos trivial, h1]
    simp [up]
set_option maxHeartbeats 1000000 in
theorem rfind_none {w : World} {m : Nat} {vr vd : Value} {L S X : Nat} {k : Int} (h : RBox w m vr vd (.slice none 0 0) L S X) : Calls Tryz.prog 60 #[.pointer (some ⟨m, 0, none⟩), .int .u64 k] w fun e w' => e = .returned (.int .i64 (-1)) ∧ w' = w := by
  obtain ⟨_, _, c2, _, _, _⟩ := h.cells
  clear h
  go_enter Tryz.func60, Tryz.ntmps60
  go_wp2_with fail
  refine wp_loop_rounds 1 ?_
  rw [rounds_succ]
  go_wp2_with fail
  go_ret
  exact ⟨rfl, rfl⟩
set_option maxHeartbeats 1000000 in
theorem right_one (w : World) : Calls Tryz.prog 36 #[.int .i64 1] w fun e w' => e = .returned (.bool true) ∧ w' = w := by
  go_enter Tryz.func36, Tryz.ntmps36
  go_wp2_with fail
  go_ret
  exact ⟨rfl, rfl⟩
set_option maxRecDepth 100000 in
set_option maxHeartbeats 4000000 in
theorem rbytes_one {w : World} {m : Nat} {vr vd : Value} {L S X : Nat} {a : Int} (h : RBox w m vr vd (.slice none 0 0) L S X) (ha : 0 ≤ a ∧ a ≤ 4294967296) :
    Calls Tryz.prog 121 #[.pointer (some ⟨m, 0, none⟩), .int .u64 a, .int .i64 1] w fun e w' => ∃ g c, e = .returned (.slice (some ⟨g, 0, none⟩) 1 c) ∧ w'.cell? ⟨g, 0, none⟩ = some (.int .u8 0) ∧ Below w.heap.size w w' := by
  obtain ⟨i, hi, hz0, hz1, hz2⟩ := info_parts info_byte
  obtain ⟨a0, a1⟩ := ha
  have HM := Lib.hid h
  have m0 : 0 ≤ a % 4096 := by omega
  have m1 : a % 4096 ≤ 4095 := by omega
  go_enter Tryz.func121, Tryz.ntmps121
  go_wp2_with (at_make; refine wpList_make_full _ rfl _ _ 41 rfl w.heap.size 5 i (.int .u8 0) 1 Tryz.underlying41 hi hz0 hz1 _ _ _ _ 1 rfl rfl (by omega) (by omega) (by rw [hz2]; omega) (by simp only [maxLen]; omega) (by simp) ?_)
  intro w1 hown hgrow
  have HB1 : Hid (Below w.heap.size w w1) := (Below.refl _ _).grown hgrow (by simp) (by simp)
  have HC1 : Hid (w1.cell? ⟨w.heap.size, 0, none⟩ = some (.int .u8 0)) := by
    rcases hown.2 with ⟨hc, _⟩ | ⟨g', cap, cur, hv, _, hg, _, _, hs, ht⟩
    · cases hc
    · cases hv
      show _ = _
      rw [cell_of_row _ _ _ _ _ _ hg]
      have h0 : cur.toList[0]? = some (.int .u8 0) := by
        rw [List.take_of_length_le (by simp [hs])] at ht
        rw [ht]
        simp [madeCells]
      rw [← Array.getElem?_toList]
      exact h0
  have HF := Lib.hid (fun k => rfind_none (k := k) (HM.out.below HB1.out))
  clear hown hgrow h hi hz0 hz1 hz2
  go_wp2_with fail
  refine wp_loop_rounds 2 ?_
  rw [rounds_succ]
  by_cases hk : 1 < 4096 - a % 4096
  · have hkd : decide (1 < 4096 - a % 4096) = true := decide_eq_true hk
    go_wp2_with (go_at_call 60; refine (HF.out _).mono ?_; rintro e w' ⟨rfl, hw⟩; have hw := hw.symm; subst hw)
    refine wp_loop_rounds 1 ?_
    rw [rounds_succ]
    go_wp2_with fail
    rw [rounds_succ]
    go_wp2_with fail
    go_ret
    exact ⟨w.heap.size, 1, rfl, HC1.out, HB1.out⟩
  · have hkd : decide (1 < 4096 - a % 4096) = false := decide_eq_false hk
    have hke : 4096 - a % 4096 = 1 := by omega
    go_wp2_with (go_at_call 60; refine (HF.out _).mono ?_; rintro e w' ⟨rfl, hw⟩; have hw := hw.symm; subst hw)
    refine wp_loop_rounds 1 ?_
    rw [rounds_succ]
    go_wp2_with fail
    rw [rounds_succ]
    go_wp2_with fail
    go_ret
    exact ⟨w.heap.size, 1, rfl, HC1.out, HB1.out⟩
/-- what the document's own Load of a byte answers where nothing was laid -/
def RLoad (w : World) (m : Nat) (vr vd : Value) (LL : List Sp) (L S X a : Nat) (d : Bool → Nat) (e : Ending) (w' : World) : Prop :=
  ∃ x b, OffR LL a 1 x b ∧ e = .returned (.tuple #[.int .u64 0, FaultV (if b then 30 else 0) x]) ∧ RBox w' m vr vd (.slice none 0 0) (L + d b) S (up b X) ∧ Keeps (fun j => j = m) w w'
theorem on_le {LL : List Sp} {a : Nat} (hs : Sane LL) (h : On LL ((a : Int) + (0 : Nat))) : (a : Int) ≤ 4294967296 := by
  obtain ⟨r, hr, h1, h2⟩ := h
  have := hs r hr
  omega
set_option maxRecDepth 100000 in
set_option maxHeartbeats 4000000 in
theorem rpeek_one {w : World} {m : Nat} {vr vd : Value} {rs ds : List Sp} {L S X a : Nat} (h : RBox w m vr vd (.slice none 0 0) L S X) (hr : U64.SV w vr rs) (hd : U64.SV w vd ds) (hs : Sane (rs ++ ds)) (hl : rs.length + ds.length ≤ 64) (ha : a ≤ 18446744073709551615) (hX : X ≤ 4611686018427387904) :
    Calls Tryz.prog 120 #[.pointer (some ⟨m, 0, none⟩), .int .u64 (a : Int), .int .i64 1] w (RLoad w m vr vd (rs ++ ds) L S X a (fun _ => 0)) := by
  have HM : Hid (RBox w m vr vd (.slice none 0 0) L S X) := h
  have HA : Hid (∀ W, Below w.heap.size w W → Calls Tryz.prog 37 #[.pointer (some ⟨m, 0, none⟩), .int .u64 (a : Int), .int .i64 1] W (RAsk W m vr vd (.slice none 0 0) (rs ++ ds) L S X a 1)) := fun W hW => raccess_any (n := 1) (h.below hW) (hr.below hW (Nat.le_refl _)) (hd.below hW (Nat.le_refl _)) hs hl ha (by omega) hX
  have HS : Hid (Sane (rs ++ ds)) := hs
  generalize rs ++ ds = LL at *
  have hml := h.lt
  clear h hr hd hs hl
  go_enter Tryz.func120, Tryz.ntmps120
  go_wp2_with (go_at_call 36; refine (right_one _).mono ?_; rintro e w' ⟨rfl, hw⟩; have hw := hw.symm; subst hw)
  refine (HA.out _ ((Below.refl _ _).alloc (Nat.le_refl _) _)).mono ?_
  rintro e w1 ⟨x, b, ho, rfl, hm1, hk1⟩
  have HOff : Hid (OffR LL a 1 x b) := ho
  have HX1 : Hid (BoxG w1 w.heap.size 0 0) := (BoxG.new w 0 0).keeps hk1 (by omega)
  have HM1 : Hid (RBox w1 m vr vd (.slice none 0 0) L S (up b X)) := hm1
  have HK1 : Hid (Keeps (fun j => j = m) w w1) := (Keeps.alloc (S := fun j => j = m) w _).trans hk1 (fun _ _ e => e)
  obtain ⟨x0, x1, f0, f1⟩ := HX1.out.cells
  have hne : w.heap.size ≠ w1.heap.size := Nat.ne_of_lt HX1.out.lt
  have hlt1 := HX1.out.lt
  have hml1 := HM1.out.lt
  clear ho hm1 hk1 HA
  unfold FaultV
  cases b with
  | true =>
    simp only [if_true]
    go_wp2_with fail
    obtain ⟨W2, hW2⟩ : ∃ W2, w1.alloc (Obj.cells #[.int .i64 30, .int .u64 x] 60) = W2 := ⟨_, rfl⟩
    have HF2 : Hid (BoxG W2 w1.heap.size 30 x) := hW2 ▸ BoxG.new w1 30 x
    have HX2 : Hid (BoxG W2 w.heap.size 0 0) := hW2 ▸ HX1.out.below ((Below.refl _ _).alloc (Nat.le_refl _) _)
    have HB2 : Hid (Below w1.heap.size w1 W2) := hW2 ▸ (Below.refl _ _).alloc (Nat.le_refl _) _
    rw [hW2]
    obtain ⟨x0, x1, f0, f1⟩ := HX2.out.cells
    obtain ⟨y0, y1, _, _⟩ := HF2.out.cells
    clear hW2
    go_region_held3 (fun w' => w'.cell? ⟨w1.heap.size, 0, none⟩ = some (.int .i64 30) ∧ w'.cell? ⟨w1.heap.size, 1, none⟩ = some (.int .u64 x)) (go_keep) (fail)
    go_wp2_with fail
    obtain ⟨d0, d1, _⟩ := BoxG.cells (w := ((W2.setCell ⟨w.heap.size, 0, none⟩ (.int .i64 30)).setCell ⟨w.heap.size, 1, none⟩ (.int .u64 x)).drew) (HX2.out.set 30 x)
    refine bodyPost_ret (v := .tuple #[.int .u64 0, .agg #[.int .i64 30, .int .u64 x]]) (by simp [results, Tryz.results120, go_sem, d0, d1]) rfl ?_
    have hk2 : Keeps (fun j => j = w.heap.size) W2 (((W2.setCell ⟨w.heap.size, 0, none⟩ (.int .i64 30)).setCell ⟨w.heap.size, 1, none⟩ (.int .u64 x)).drew) := (Keeps.two W2 w.heap.size (.int .i64 30) (.int .u64 x)).drew
    exact ⟨x, true, HOff.out, rfl, (HM1.out.below HB2.out).keeps hk2 (by omega), (HK1.out.trans (Keeps.of_below (S := fun _ => False) HB2.out) (fun _ _ h => h.elim)).trans hk2 (fun i hi e => absurd e (by omega))⟩
  | false =>
    simp only [Bool.false_eq_true, if_false]
    obtain ⟨hx0, hon⟩ := HOff.out.2 rfl
    subst hx0
    have hle := on_le HS.out (hon 0 (by omega))
    clear hon
    go_wp2_with fail
    obtain ⟨W2, hW2⟩ : ∃ W2, w1.alloc (Obj.cells #[.int .i64 0, .int .u64 0] 60) = W2 := ⟨_, rfl⟩
    have HF2 : Hid (BoxG W2 w1.heap.size 0 0) := hW2 ▸ BoxG.new w1 0 0
    have HX2 : Hid (BoxG W2 w.heap.size 0 0) := hW2 ▸ HX1.out.below ((Below.refl _ _).alloc (Nat.le_refl _) _)
    have HB2 : Hid (Below w1.heap.size w1 W2) := hW2 ▸ (Below.refl _ _).alloc (Nat.le_refl _) _
    try rw [hW2]
    have HBy := Lib.hid (rbytes_one (HM1.out.below HB2.out) ⟨by omega, hle⟩)
    clear hW2
    refine HBy.out.mono ?_
    rintro e w3 ⟨g, c, rfl, z0, hb3⟩
    have HB3 : Hid (Below W2.heap.size W2 w3) := hb3
    have HF3 : Hid (BoxG w3 w1.heap.size 0 0) := HF2.out.below hb3
    have HX3 : Hid (BoxG w3 w.heap.size 0 0) := HX2.out.below hb3
    clear hb3 HBy
    go_wp2_with fail
    refine wp_loop_rounds 2 ?_
    rw [rounds_succ]
    go_wp2_with fail
    rw [rounds_succ]
    obtain ⟨x0, x1, f0, f1⟩ := HX3.out.cells
    obtain ⟨y0, y1, _, _⟩ := HF3.out.cells
    go_wp2_with fail
    go_region_held3 (fun w' => w'.cell? ⟨w1.heap.size, 0, none⟩ = some (.int .i64 0) ∧ w'.cell? ⟨w1.heap.size, 1, none⟩ = some (.int .u64 0)) (go_keep) (fail)
    go_wp2_with fail
    obtain ⟨d0, d1, _⟩ := BoxG.cells (w := ((w3.setCell ⟨w.heap.size, 0, none⟩ (.int .i64 0)).setCell ⟨w.heap.size, 1, none⟩ (.int .u64 0)).drew) (HX3.out.set 0 0)
    refine bodyPost_ret (v := .tuple #[.int .u64 0, .agg #[.int .i64 0, .int .u64 0]]) (by simp [results, Tryz.results120, go_sem, d0, d1]) rfl ?_
    have hk2 : Keeps (fun j => j = w.heap.size) w3 (((w3.setCell ⟨w.heap.size, 0, none⟩ (.int .i64 0)).setCell ⟨w.heap.size, 1, none⟩ (.int .u64 0)).drew) := (Keeps.two w3 w.heap.size (.int .i64 0) (.int .u64 0)).drew
    have hb13 : Below w1.heap.size w1 w3 := HB2.out.trans (HB3.out.mono HB2.out.size)
    exact ⟨0, false, HOff.out, rfl, (HM1.out.below hb13).keeps hk2 (by omega), (HK1.out.trans (Keeps.of_below (S := fun _ => False) hb13) (fun _ _ h => h.elim)).trans hk2 (fun i hi e => absurd e (by omega))⟩
set_option maxRecDepth 100000 in
set_option maxHeartbeats 4000000 in
theorem rload_one {w : World} {m : Nat} {vr vd : Value} {rs ds : List Sp} {L S X a : Nat} (h : RBox w m vr vd (.slice none 0 0) L S X) (hr : U64.SV w vr rs) (hd : U64.SV w vd ds) (hs : Sane (rs ++ ds)) (hl : rs.length + ds.length ≤ 64) (ha : a ≤ 18446744073709551615) (hX : X ≤ 4611686018427387904) (hL : L ≤ 4611686018427387904) :
    Calls Tryz.prog 119 #[.pointer (some ⟨m, 0, none⟩), .int .u64 (a : Int), .int .i64 1] w fun e w' => ∃ x b, OffR (rs ++ ds) a 1 x b ∧ e = .returned (.tuple #[.int .u64 0, FaultV (if b then 30 else 0) x]) ∧ Keeps (fun j => j = m) w w' := by
  have HM : Hid (RBox w m vr vd (.slice none 0 0) L S X) := h
  have HA : Hid (∀ W, Below w.heap.size w W → Calls Tryz.prog 120 #[.pointer (some ⟨m, 0, none⟩), .int .u64 (a : Int), .int .i64 1] W (RLoad W m vr vd (rs ++ ds) L S X a (fun _ => 0))) := fun W hW => rpeek_one (h.below hW) (hr.below hW (Nat.le_refl _)) (hd.below hW (Nat.le_refl _)) hs hl ha hX
  generalize rs ++ ds = LL at *
  have hml := h.lt
  clear h hr hd hs hl
  go_enter Tryz.func119, Tryz.ntmps119
  go_wp2_with fail
  refine (HA.out _ ((Below.refl _ _).alloc (Nat.le_refl _) _)).mono ?_
  rintro e w1 ⟨x, b, ho, rfl, hm1, hk1⟩
  have HOff : Hid (OffR LL a 1 x b) := ho
  have HX1 : Hid (BoxG w1 w.heap.size 0 0) := (BoxG.new w 0 0).keeps hk1 (by omega)
  have HM1 : Hid (RBox w1 m vr vd (.slice none 0 0) L S (up b X)) := hm1
  have HK1 : Hid (Keeps (fun j => j = m) w w1) := (Keeps.alloc (S := fun j => j = m) w _).trans hk1 (fun _ _ e => e)
  obtain ⟨x0, x1, f0, f1⟩ := HX1.out.cells
  have hml1 := HM1.out.lt
  have hne : w.heap.size ≠ w1.heap.size := Nat.ne_of_lt HX1.out.lt
  have hlt1 := HX1.out.lt
  have c3 := fun X => U64.cell_alloc' X HM1.out.cells.2.2.2.1
  have g3 := fun X : Obj => (HM1.out.below ((Below.refl _ _).alloc (Nat.le_refl _) X)).thawed 3
  clear ho hm1 hk1 HA
  unfold FaultV
  cases b with
  | true =>
    simp only [if_true]
    go_wp2_with fail
    obtain ⟨W2, hW2⟩ : ∃ W2, w1.alloc (Obj.cells #[.int .i64 30, .int .u64 x] 60) = W2 := ⟨_, rfl⟩
    have HF2 : Hid (BoxG W2 w1.heap.size 30 x) := hW2 ▸ BoxG.new w1 30 x
    have HX2 : Hid (BoxG W2 w.heap.size 0 0) := hW2 ▸ HX1.out.below ((Below.refl _ _).alloc (Nat.le_refl _) _)
    have HB2 : Hid (Below w1.heap.size w1 W2) := hW2 ▸ (Below.refl _ _).alloc (Nat.le_refl _) _
    rw [hW2]
    obtain ⟨x0, x1, f0, f1⟩ := HX2.out.cells
    obtain ⟨y0, y1, _, _⟩ := HF2.out.cells
    clear hW2 c3 g3
    go_region_held3 (fun w' => w'.cell? ⟨w1.heap.size, 0, none⟩ = some (.int .i64 30) ∧ w'.cell? ⟨w1.heap.size, 1, none⟩ = some (.int .u64 x)) (go_keep) (fail)
    go_wp2_with fail
    obtain ⟨d0, d1, _⟩ := BoxG.cells (w := ((W2.setCell ⟨w.heap.size, 0, none⟩ (.int .i64 30)).setCell ⟨w.heap.size, 1, none⟩ (.int .u64 x)).drew) (HX2.out.set 30 x)
    refine bodyPost_ret (v := .tuple #[.int .u64 0, .agg #[.int .i64 30, .int .u64 x]]) (by simp [results, Tryz.results119, go_sem, d0, d1]) rfl ?_
    have hk2 : Keeps (fun j => j = w.heap.size) W2 (((W2.setCell ⟨w.heap.size, 0, none⟩ (.int .i64 30)).setCell ⟨w.heap.size, 1, none⟩ (.int .u64 x)).drew) := (Keeps.two W2 w.heap.size (.int .i64 30) (.int .u64 x)).drew
    exact ⟨x, true, HOff.out, rfl, (HK1.out.trans (Keeps.of_below (S := fun _ => False) HB2.out) (fun _ _ h => h.elim)).trans hk2 (fun i hi e => absurd e (by omega))⟩
  | false =>
    simp only [Bool.false_eq_true, if_false]
    go_wp2_with fail
    obtain ⟨W2, hW2⟩ : ∃ W2, (w1.setCell ⟨m, 3, none⟩ (.int .i64 ((L : Int) + 1))).alloc (Obj.cells #[.int .i64 0, .int .u64 x] 60) = W2 := ⟨_, rfl⟩
    have HF2 : Hid (BoxG W2 w1.heap.size 0 x) := by rw [← hW2]; exact heap_alloc_newN (by simp [World.setCell]) _
    have HX2 : Hid (BoxG W2 w.heap.size 0 0) := by rw [← hW2]; exact (HX1.out.keeps (Keeps.setCell _ _ _ _) (by omega)).below ((Below.refl _ _).alloc (Nat.le_refl _) _)
    have HK2 : Hid (Keeps (fun j => j = m) w1 W2) := by rw [← hW2]; exact (Keeps.setCell _ _ _ _).trans (Keeps.alloc (S := fun j => j = m) _ _) (fun _ _ e => e)
    rw [hW2]
    obtain ⟨x0, x1, f0, f1⟩ := HX2.out.cells
    obtain ⟨y0, y1, _, _⟩ := HF2.out.cells
    clear hW2 c3 g3
    go_region_held3 (fun w' => w'.cell? ⟨w1.heap.size, 0, none⟩ = some (.int .i64 0) ∧ w'.cell? ⟨w1.heap.size, 1, none⟩ = some (.int .u64 x)) (go_keep) (fail)
    go_wp2_with fail
    obtain ⟨d0, d1, _⟩ := BoxG.cells (w := ((W2.setCell ⟨w.heap.size, 0, none⟩ (.int .i64 0)).setCell ⟨w.heap.size, 1, none⟩ (.int .u64 x)).drew) (HX2.out.set 0 x)
    refine bodyPost_ret (v := .tuple #[.int .u64 0, .agg #[.int .i64 0, .int .u64 x]]) (by simp [results, Tryz.results119, go_sem, d0, d1]) rfl ?_
    have hk2 : Keeps (fun j => j = w.heap.size) W2 (((W2.setCell ⟨w.heap.size, 0, none⟩ (.int .i64 0)).setCell ⟨w.heap.size, 1, none⟩ (.int .u64 x)).drew) := (Keeps.two W2 w.heap.size (.int .i64 0) (.int .u64 x)).drew
    exact ⟨x, false, HOff.out, rfl, (HK1.out.trans HK2.out (fun _ _ e => e)).trans hk2 (fun i hi e => absurd e (by omega))⟩
end Go.Proofs.YtmaahompmgmkfaaGreat
