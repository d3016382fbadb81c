/- ask, askWidth: is an access on the bus? Own work. -/
import Derived.Test.YtehedllcdpjebaaBOff
namespace Go.Proofs.Ytehedllcdpjebaa
open Go.RowKit Go.Maps Go.Proofs.Ytehedllcdpjebaa.Sp
/-- a Fault in its box -/
def BoxF (w : World) (b : Nat) (x y : Int) : Prop := w.heap[b]? = some (.cells #[.int .i64 x, .int .u64 y] 27 (0, 0))
theorem BoxF.cells {w : World} {b : Nat} {x y : Int} (h : BoxF w b x y) : w.cell? ⟨b, 0, none⟩ = some (.int .i64 x) ∧ w.cell? ⟨b, 1, none⟩ = some (.int .u64 y) ∧ w.frozen? ⟨b, 0, none⟩ = false ∧ w.frozen? ⟨b, 1, none⟩ = false := by
  refine ⟨?_, ?_, by simp [World.frozen?, show w.heap[b]? = _ from h], by simp [World.frozen?, show w.heap[b]? = _ from h]⟩ <;> rw [cell_of_row w b _ _ _ _ h] <;> rfl
theorem BoxF.set {w : World} {b : Nat} {x y : Int} (h : BoxF w b x y) (x' y' : Int) : BoxF ((w.setCell ⟨b, 0, none⟩ (.int .i64 x')).setCell ⟨b, 1, none⟩ (.int .u64 y')) b x' y' := by
  have h' : w.heap[b]? = _ := h
  simp [BoxF, World.setCell, Array.getElem?_modify, h']
theorem BoxF.lt {w : World} {b : Nat} {x y : Int} (h : BoxF w b x y) : b < w.heap.size := (Array.getElem?_eq_some_iff.1 h).1
theorem BoxF.below {w w' : World} {b : Nat} {x y : Int} (h : BoxF w b x y) (hb : Below w.heap.size w w') : BoxF w' b x y := (hb.block b h.lt).trans h
theorem BoxF.keeps {Z : Nat → Prop} {w w' : World} {b : Nat} {x y : Int} (h : BoxF w b x y) (hk : Keeps Z w w') (hn : ¬ Z b) : BoxF w' b x y := (hk.block b h.lt hn).trans h
theorem BoxF.new (w : World) (x y : Int) : BoxF (w.alloc (Obj.cells #[.int .i64 x, .int .u64 y] 27)) w.heap.size x y := heap_alloc_new w _
def FaultV (why at_ : Int) : Value := .agg #[.int .i64 why, .int .u64 at_]
def up (b : Bool) (n : Nat) : Nat := if b then n + 1 else n
/-- what an access asks -/
def AskPost (w : World) (m B : Nat) (V : Value × Value × Value) (T : Nat → Option Nat) (M : Nat → Nat) (rs ds : List Sp) (L S X a n : Nat) (e : Ending) (w' : World) : Prop :=
  ∃ x b, OffR (rs ++ ds) a n x b ∧ e = .returned (FaultV (if b then 30 else 0) x) ∧ Mac w' m B V T M rs ds L S (up b X) ∧ Keeps (fun j => j = m) w w'
set_option maxRecDepth 100000 in
set_option maxHeartbeats 4000000 in
theorem ask_any {w : World} {m B : Nat} {V : Value × Value × Value} {T : Nat → Option Nat} {M : Nat → Nat} {rs ds : List Sp} {L S X a n : Nat} (h : Mac w m B V T M rs ds L S X) (ha : a ≤ 18446744073709551615) (hn : n ≤ 9223372036854775807) (hX : X ≤ 4611686018427387904) :
    Calls Try.prog 48 #[.pointer (some ⟨m, 0, none⟩), .int .u64 (a : Int), .int .i64 (n : Int)] w (AskPost w m B V T M rs ds L S X a n) := by
  have HM : Hid (Mac w m B V T M rs ds L S X) := h
  have HO : Hid (∀ W, Below w.heap.size w W → Calls Try.prog 58 #[.pointer (some ⟨m, 0, none⟩), .int .u64 (a : Int), .int .i64 (n : Int)] W fun e w' => ∃ x b, e = .returned (.tuple #[.int .u64 x, .bool b]) ∧ OffR (rs ++ ds) a n x b ∧ Below W.heap.size W w') := fun W hW => off_any (h.below hW) ha hn
  clear h
  go_enter Try.func48, Try.ntmps48
  go_wp2_with fail
  refine (HO.out _ ((Below.refl _ _).alloc (Nat.le_refl _) _)).mono ?_
  rintro e w1 ⟨x, b, rfl, ho, hb1⟩
  have HOff : Hid (OffR (rs ++ ds) a n x b) := ho
  have HB1 : Hid (Below w.heap.size w w1) := ((Below.refl _ _).alloc (Nat.le_refl _) _).trans (hb1.mono (by simp))
  have HX1 : Hid (BoxF w1 w.heap.size 0 0) := (BoxF.new w 0 0).below hb1
  have HM1 : Hid (Mac w1 m B V T M rs ds L S X) := HM.out.below HB1.out
  obtain ⟨x0, x1, f0, f1⟩ := HX1.out.cells
  obtain ⟨_, _, c2, _, g2⟩ := HM1.out.cells
  have g2 := g2 2
  have hml := HM.out.lt
  clear ho hb1 HO
  cases b with
  | false =>
    go_wp2_with fail
    obtain ⟨d0, d1, _⟩ := (HX1.out.set 0 0).cells
    refine bodyPost_ret (v := .agg #[.int .i64 0, .int .u64 0]) (by simp [results, Try.results48, go_sem, d0, d1]) rfl ?_
    have hb2 := (HB1.out.setCell (p := ⟨w.heap.size, 0, none⟩) (Nat.le_refl _) (.int .i64 0)).setCell (p := ⟨w.heap.size, 1, none⟩) (Nat.le_refl _) (.int .u64 0)
    refine ⟨x, false, HOff.out, ?_, HM.out.below hb2, Keeps.of_below hb2⟩
    rw [(HOff.out.2 rfl).1]
    rfl
  | true =>
    have hb3 : BoxF (w1.setCell ⟨m, 2, none⟩ (.int .i64 ((X : Int) + 1))) w.heap.size 0 0 := HX1.out.keeps (Keeps.setCell _ _ _ _) (by omega)
    have HX3 : Hid (BoxF (w1.setCell ⟨m, 2, none⟩ (.int .i64 ((X : Int) + 1))) w.heap.size 0 0) := hb3
    obtain ⟨y0, y1, k0, k1⟩ := hb3.cells
    clear hb3
    go_wp2_with fail
    obtain ⟨d0, d1, _⟩ := (HX3.out.set 30 x).cells
    refine bodyPost_ret (v := .agg #[.int .i64 30, .int .u64 x]) (by simp [results, Try.results48, go_sem, d0, d1]) rfl ?_
    have hk : Keeps (fun j => j = m) w (((w1.setCell ⟨m, 2, none⟩ (.int .i64 ((X : Int) + 1))).setCell ⟨w.heap.size, 0, none⟩ (.int .i64 30)).setCell ⟨w.heap.size, 1, none⟩ (.int .u64 x)) :=
      (((Keeps.of_below (S := fun j => j = m) HB1.out).trans (Keeps.setCell _ _ _ _) (fun _ _ e => e)).trans (Keeps.setCell _ _ _ _) (fun i hi e => absurd e (by omega))).trans (Keeps.setCell _ _ _ _) (fun i hi e => absurd e (by omega))
    refine ⟨x, true, HOff.out, rfl, HM.out.recount hk (fun h0 => ?_), hk⟩
    rw [Below.heap_setCell _ _ _ _ (show m ≠ w.heap.size by omega), Below.heap_setCell _ _ _ _ (show m ≠ w.heap.size by omega)]
    have h1 := (HB1.out.block m hml).trans h0
    simp only [World.setCell, Array.getElem?_modify]
    rw [if_pos trivial, h1]
    simp [up]
end Go.Proofs.Ytehedllcdpjebaa
