/- Where. Own work. -/
import Derived.Test.YtmaahompmgmkfaaBSpot
namespace Go.Proofs.Ytmaahompmgmkfaa
open Go.RowKit Go.Maps Go.Proofs.Ytmaahompmgmkfaa.Sp
/-- what Where answers -/
def whereV (rs ds : List Sp) (a : Int) : Value :=
  match spotFrom a 0 rs with
  | some x => spotV 1 (some x)
  | none => spotV 2 (spotFrom a 0 ds)
theorem Sane.fits {rs : List Sp} (h : Sane rs) : Fits 18446744073709551615 rs := fun r hr => by
  obtain ⟨h1, h2, h3⟩ := h r hr
  omega
theorem Sane.left {rs ds : List Sp} (h : Sane (rs ++ ds)) : Sane rs := fun r hr => h r (List.mem_append_left _ hr)
theorem Sane.right {rs ds : List Sp} (h : Sane (rs ++ ds)) : Sane ds := fun r hr => h r (List.mem_append_right _ hr)
theorem spotV_form (kind : Int) (x : Option (Nat × Int)) : ∃ k i o b, spotV kind x = .tuple #[.agg #[.int .i64 k, .int .i64 i, .int .u64 o], .bool b] := by
  cases x with
  | none => exact ⟨0, 0, 0, false, rfl⟩
  | some x => exact ⟨_, _, _, _, rfl⟩
theorem Box3.more {w : World} {b : Nat} {x y z : Value} (h : Box3 w b x y z) (X : Obj) : Box3 (w.alloc X) b x y z := (Below.heap_alloc w X b (Array.getElem?_eq_some_iff.1 h).1).trans h
set_option maxRecDepth 100000 in
set_option maxHeartbeats 2000000 in
theorem where_any {w : World} {m B : Nat} {V : Value × Value × Value} {T : Nat → Option Nat} {M : Nat → Nat} {rs ds : List Sp} {L S X : Nat} {a : Int} (h : Mac w m B V T M rs ds L S X) (ha : 0 ≤ a ∧ a ≤ 18446744073709551615) :
    Calls Try.prog 9 #[.pointer (some ⟨m, 0, none⟩), .int .u64 a] w fun e w' => e = .returned (whereV rs ds a) ∧ Below w.heap.size w w' := by
  obtain ⟨vr, vd, vg⟩ := V
  obtain ⟨G, h0, h1, h2, h3, h4, h5, h6, h7, h8, h9, h10⟩ := h
  simp only at h0 h1 h2 h3
  have c3 : w.cell? ⟨m, 3, none⟩ = some vr := by rw [cell_of_row w m _ _ _ _ h0]; rfl
  have c4 : w.cell? ⟨m, 4, none⟩ = some vd := by rw [cell_of_row w m _ _ _ _ h0]; rfl
  have HC1 : Hid (∀ W, Below w.heap.size w W → Calls Try.prog 20 #[.int .i64 1, vr, .int .u64 a] W fun e w' => e = .returned (spotV 1 (spotFrom a 0 rs)) ∧ Below W.heap.size W w') := fun W hW => spot_any (h1.below hW (Nat.le_refl _)) h6.left.fits ha
  have HC2 : Hid (∀ W, Below w.heap.size w W → Calls Try.prog 20 #[.int .i64 2, vd, .int .u64 a] W fun e w' => e = .returned (spotV 2 (spotFrom a 0 ds)) ∧ Below W.heap.size W w') := fun W hW => spot_any (h2.below hW (Nat.le_refl _)) h6.right.fits ha
  clear h0 h1 h2 h3 h4 h5 h6 h7 h8 h9 h10
  have HC3 : Hid (∀ W, Below w.heap.size w W → W.cell? ⟨m, 3, none⟩ = some vr ∧ W.cell? ⟨m, 4, none⟩ = some vd) := fun W hW => ⟨by rw [hW.cell (World.block_lt_of_cell? w _ c3)]; exact c3, by rw [hW.cell (World.block_lt_of_cell? w _ c4)]; exact c4⟩
  have e3 := fun X => U64.cell_alloc' X c3
  have HB0 : Hid (∀ X, Below w.heap.size w (w.alloc X)) := fun X => (Below.refl _ _).alloc (Nat.le_refl _) _
  have HX0 : Hid (Box3 (w.alloc (Obj.cells #[.int .i64 0, .int .i64 0, .int .u64 0] 37)) w.heap.size (.int .i64 0) (.int .i64 0) (.int .u64 0)) := heap_alloc_new w _
  clear c4
  cases hsp : spotFrom a 0 rs with
  | some x =>
    obtain ⟨i, o⟩ := x
    rw [hsp] at HC1
    have HE : Hid (whereV rs ds a = spotV 1 (some (i, o))) := by show _ = _; rw [whereV, hsp]
    clear hsp
    go_enter Try.func9, Try.ntmps9
    go_wp2_with fail
    refine (HC1.out _ (HB0.out _)).mono ?_
    rintro e w1 ⟨rfl, hb1⟩
    have HB1 : Hid (Below w.heap.size w w1) := (HB0.out _).trans (hb1.mono (by simp))
    have HX1 : Hid (Box3 w1 w.heap.size (.int .i64 0) (.int .i64 0) (.int .u64 0)) := (hb1.block w.heap.size (by simp)).trans HX0.out
    have y0 := fun X => (Box3.cells (HX1.out.more X)).1
    have y1 := fun X => (Box3.cells (HX1.out.more X)).2.1
    have y2 := fun X => (Box3.cells (HX1.out.more X)).2.2.1
    have y3 := fun X => (Box3.cells (HX1.out.more X)).2.2.2.1
    have y4 := fun X => (Box3.cells (HX1.out.more X)).2.2.2.2.1
    have y5 := fun X => (Box3.cells (HX1.out.more X)).2.2.2.2.2
    have e4 := fun X => U64.cell_alloc' X (HC3.out w1 HB1.out).2
    rw [spotV]
    clear hb1
    go_wp2_with fail
    obtain ⟨d0, d1, d2, _⟩ := Box3.cells (Box3.set (HX1.out.more (.cells #[.int .i64 1, .int .i64 (i : Int), .int .u64 o] 37)) (.int .i64 1) (.int .i64 (i : Int)) (.int .u64 o))
    refine bodyPost_ret (v := .tuple #[.agg #[.int .i64 1, .int .i64 (i : Int), .int .u64 o], .bool true]) (by simp [results, Try.results9, go_sem, d0, d1, d2]) rfl ?_
    exact ⟨by rw [HE.out]; rfl, (((HB1.out.alloc HB1.out.size _).setCell (p := ⟨w.heap.size, 0, none⟩) (Nat.le_refl _) _).setCell (p := ⟨w.heap.size, 1, none⟩) (Nat.le_refl _) _).setCell (p := ⟨w.heap.size, 2, none⟩) (Nat.le_refl _) _⟩
  | none =>
    rw [hsp] at HC1
    have HE : Hid (whereV rs ds a = spotV 2 (spotFrom a 0 ds)) := by show _ = _; rw [whereV, hsp]
    clear hsp
    go_enter Try.func9, Try.ntmps9
    go_wp2_with fail
    refine (HC1.out _ (HB0.out _)).mono ?_
    rintro e w1 ⟨rfl, hb1⟩
    have HB1 : Hid (Below w.heap.size w w1) := (HB0.out _).trans (hb1.mono (by simp))
    have HX1 : Hid (Box3 w1 w.heap.size (.int .i64 0) (.int .i64 0) (.int .u64 0)) := (hb1.block w.heap.size (by simp)).trans HX0.out
    have y0 := fun X => (Box3.cells (HX1.out.more X)).1
    have y1 := fun X => (Box3.cells (HX1.out.more X)).2.1
    have y2 := fun X => (Box3.cells (HX1.out.more X)).2.2.1
    have y3 := fun X => (Box3.cells (HX1.out.more X)).2.2.2.1
    have y4 := fun X => (Box3.cells (HX1.out.more X)).2.2.2.2.1
    have y5 := fun X => (Box3.cells (HX1.out.more X)).2.2.2.2.2
    have e4 := fun X => U64.cell_alloc' X (HC3.out w1 HB1.out).2
    rw [spotV]
    clear hb1
    go_wp2_with fail
    refine (HC2.out _ (HB1.out.alloc HB1.out.size _)).mono ?_
    rintro e w2 ⟨rfl, hb2⟩
    have HB2 : Hid (Below w.heap.size w w2) := (HB1.out.alloc HB1.out.size _).trans (hb2.mono (by have := HB1.out.size; simp; omega))
    have HX2 : Hid (Box3 w2 w.heap.size (.int .i64 0) (.int .i64 0) (.int .u64 0)) := (hb2.block w.heap.size (by have := World.block_lt_of_cell? _ _ (y0 (Obj.cells #[.int .i64 0, .int .i64 0, .int .u64 0] 37)); exact this)).trans (HX1.out.more _)
    obtain ⟨x0, x1, x2, f0, f1, f2⟩ := Box3.cells HX2.out
    obtain ⟨k, i, o, b, hV⟩ := spotV_form 2 (spotFrom a 0 ds)
    rw [hV]
    rw [hV] at HE
    clear hb2 hV y0 y1 y2 y3 y4 y5
    go_wp2_with fail
    obtain ⟨d0, d1, d2, _⟩ := Box3.cells (Box3.set HX2.out (.int .i64 k) (.int .i64 i) (.int .u64 o))
    refine bodyPost_ret (v := .tuple #[.agg #[.int .i64 k, .int .i64 i, .int .u64 o], .bool b]) (by simp [results, Try.results9, go_sem, d0, d1, d2]) rfl ?_
    exact ⟨by rw [HE.out], ((HB2.out.setCell (p := ⟨w.heap.size, 0, none⟩) (Nat.le_refl _) _).setCell (p := ⟨w.heap.size, 1, none⟩) (Nat.le_refl _) _).setCell (p := ⟨w.heap.size, 2, none⟩) (Nat.le_refl _) _⟩
end Go.Proofs.Ytmaahompmgmkfaa
