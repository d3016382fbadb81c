/- Spans; With, Without. Own work (made by a program). -/
import Derived.Test.YtabgmlnlooiddaaGreatSpOfU64
namespace Go.Proofs.YtabgmlnlooiddaaGreat.U64
open Go.RowKit Go.Shelf Go.Proofs.YtabgmlnlooiddaaGreat.Sp

/-- Three boxes: a set, a span, the result's. -/
theorem three_boxes (w : World) (vs : Value) (x : Sp) :
    ∃ W3, ((w.alloc (Obj.cells #[vs] 40)).alloc (Obj.cells #[Value.int IntKind.u64 x.1, Value.int IntKind.u64 x.2] 43)).alloc (Obj.cells #[Value.slice none 0 0] 40) = W3 ∧ W3.heap.size = w.heap.size + 1 + 1 + 1 ∧ Below w.heap.size w W3 ∧
      W3.cell? ⟨w.heap.size, 0, none⟩ = some vs ∧ W3.cell? ⟨w.heap.size + 1, 0, none⟩ = some (.int .u64 x.1) ∧ W3.cell? ⟨w.heap.size + 1, 1, none⟩ = some (.int .u64 x.2) ∧ W3.cell? ⟨w.heap.size + 1 + 1, 0, none⟩ = some (.slice none 0 0) ∧ W3.frozen? ⟨w.heap.size + 1 + 1, 0, none⟩ = false := by
  have e0 : ((w.alloc (Obj.cells #[vs] 40)).cell? ⟨w.heap.size, 0, none⟩) = some vs := by
    rw [cell_of_row _ _ 0 _ _ _ (heap_alloc_new w _)]; rfl
  have e1 := new2 (W := w.alloc (Obj.cells #[vs] 40)) (n := w.heap.size + 1) (by simp) (.int .u64 x.1) (.int .u64 x.2) 43
  have e2 := third_cell (w := w) (a := Obj.cells #[vs] 40) (b := Obj.cells #[Value.int IntKind.u64 x.1, Value.int IntKind.u64 x.2] 43) (v := .slice none 0 0) (t := 40) (Below.refl _ _)
  exact ⟨_, rfl, by simp, (((Below.refl _ _).alloc (Nat.le_refl _) _).alloc (by simp) _).alloc (by simp; omega) _, cell_alloc' _ (cell_alloc' _ e0), cell_alloc' _ e1.1, cell_alloc' _ e1.2, e2.1, e2.2⟩
/-- They lie as they were laid. -/
def Boxes (w W : World) (vs : Value) (x : Sp) : Prop :=
  W.cell? ⟨w.heap.size, 0, none⟩ = some vs ∧ W.cell? ⟨w.heap.size + 1, 0, none⟩ = some (.int .u64 x.1) ∧ W.cell? ⟨w.heap.size + 1, 1, none⟩ = some (.int .u64 x.2) ∧ W.cell? ⟨w.heap.size + 1 + 1, 0, none⟩ = some (.slice none 0 0) ∧ W.frozen? ⟨w.heap.size + 1 + 1, 0, none⟩ = false
theorem Boxes.below {w W W' : World} {vs : Value} {x : Sp} (h : Boxes w W vs x) (hb : Below W.heap.size W W') : Boxes w W' vs x := by
  obtain ⟨c0, c1, c2, c3, c4⟩ := h
  refine ⟨?_, ?_, ?_, ?_, ?_⟩
  · rw [hb.cell (World.block_lt_of_cell? W _ c0)]; exact c0
  · rw [hb.cell (World.block_lt_of_cell? W _ c1)]; exact c1
  · rw [hb.cell (World.block_lt_of_cell? W _ c2)]; exact c2
  · rw [hb.cell (World.block_lt_of_cell? W _ c3)]; exact c3
  · rw [hb.frozen (p := ⟨w.heap.size + 1 + 1, 0, none⟩) (World.block_lt_of_cell? W _ c3)]; exact c4
/-- Behind Of: the set of the span, and what lay before. -/
def Rest1 (w w2 : World) (x : Sp) (v2 : Value) : Prop := ∃ ts, SV w2 v2 ts ∧ OfR 18446744073709551615 [x] ts ∧ Below w.heap.size w w2 ∧ w.heap.size + 1 + 1 + 1 ≤ w2.heap.size
/-- Behind the call that makes the result. -/
def Rest2 (w w3 : World) (x : Sp) (keep : Bool → Bool → Bool) (s : List Sp) (v : Value) : Prop := ∃ rs, Own w3 (w.heap.size + 1 + 1 + 1) v rs ∧ (∃ ts, OfR 18446744073709551615 [x] ts ∧ Made 18446744073709551615 keep s ts rs) ∧ Below w.heap.size w w3
theorem one_sv {W : World} {g : Nat} {x : Sp} (h0 : W.cell? ⟨g, 0, none⟩ = some (.int .u64 x.1)) (h1 : W.cell? ⟨g, 1, none⟩ = some (.int .u64 x.2)) : SV W (.slice (some ⟨g, 0, none⟩) 1 1) [x] := by
  refine ⟨_, 1, rfl, Nat.le_refl _, by simp [maxLen], fun e => (by cases e), fun a e => (by cases e; exact ⟨g, 0, rfl, World.block_lt_of_cell? W _ h0⟩), fun j hj => ?_⟩
  obtain rfl : j = 0 := by simpa using hj
  exact ⟨g, 0, rfl, h0, h1⟩
theorem with1 {w W3 : World} {vs : Value} {x : Sp} (hx : Fits 18446744073709551615 [x]) (hz : W3.heap.size = w.heap.size + 1 + 1 + 1) (hb : Below w.heap.size w W3) (h : Boxes w W3 vs x) :
    Calls Tryz.prog 11 #[.slice (some ⟨w.heap.size + 1 + 1 + 1, 0, none⟩) 1 1] (W3.alloc (Obj.cells #[Value.int IntKind.u64 x.1, Value.int IntKind.u64 x.2] 43)).drew fun e w2 => ∃ a n c, e = .returned (.agg #[.slice a n c]) ∧ Boxes w w2 vs x ∧ Hid (Rest1 w w2 x (.slice a n c)) := by
  have hn := new2 hz (.int .u64 x.1) (.int .u64 x.2) 43
  have hbD : Below W3.heap.size W3 (W3.alloc (Obj.cells #[Value.int IntKind.u64 x.1, Value.int IntKind.u64 x.2] 43)).drew := ((Below.refl _ _).alloc (Nat.le_refl _) _).drew
  refine (of_any (one_sv (W := (W3.alloc (Obj.cells #[Value.int IntKind.u64 x.1, Value.int IntKind.u64 x.2] 43)).drew) hn.1 hn.2) hx (by simp)).mono ?_
  rintro e w2 ⟨v2, ts, rfl, ho, hr, hb2⟩
  obtain ⟨a, n, c, hv⟩ : ∃ a n c, v2 = .slice a n c := by
    obtain ⟨a, c, e, _⟩ := ho.sv
    exact ⟨a, _, c, e⟩
  subst hv
  refine ⟨a, n, c, rfl, (h.below hbD).below hb2, ts, ho.sv, hr, (hb.trans (hbD.mono (by omega))).trans (hb2.mono ?_), ?_⟩
  · have := hbD.size; omega
  · have := hbD.size; have := hb2.size; omega

end Go.Proofs.YtabgmlnlooiddaaGreat.U64
