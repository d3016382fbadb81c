/- Spans; With, Without. Own work (made by a program). -/
import Derived.Test.YtehedllcdpjebaaSpOfU64
namespace Go.Proofs.Ytehedllcdpjebaa.U64
open Go.RowKit Go.Shelf Go.Proofs.Ytehedllcdpjebaa.Sp

/-- Three boxes: a set, a span, the result's. -/
theorem three_boxes (w : World) (vs : Value) (x : Sp) :
    ∃ W3, ((w.alloc (Obj.cells #[vs] 77)).alloc (Obj.cells #[Value.int IntKind.u64 x.1, Value.int IntKind.u64 x.2] 102)).alloc (Obj.cells #[Value.slice none 0 0] 77) = W3 ∧ W3.heap.size = w.heap.size + 1 + 1 + 1 ∧ Below w.heap.size w W3 ∧
      W3.cell? ⟨w.heap.size, 0, none⟩ = some vs ∧ W3.cell? ⟨w.heap.size + 1, 0, none⟩ = some (.int .u64 x.1) ∧ W3.cell? ⟨w.heap.size + 1, 1, none⟩ = some (.int .u64 x.2) ∧ W3.cell? ⟨w.heap.size + 1 + 1, 0, none⟩ = some (.slice none 0 0) ∧ W3.frozen? ⟨w.heap.size + 1 + 1, 0, none⟩ = false := by
  have e0 : ((w.alloc (Obj.cells #[vs] 77)).cell? ⟨w.heap.size, 0, none⟩) = some vs := by
    rw [cell_of_row _ _ 0 _ _ _ (heap_alloc_new w _)]; rfl
  have e1 := new2 (W := w.alloc (Obj.cells #[vs] 77)) (n := w.heap.size + 1) (by simp) (.int .u64 x.1) (.int .u64 x.2) 102
  have e2 := third_cell (w := w) (a := Obj.cells #[vs] 77) (b := Obj.cells #[Value.int IntKind.u64 x.1, Value.int IntKind.u64 x.2] 102) (v := .slice none 0 0) (t := 77) (Below.refl _ _)
  exact ⟨_, rfl, by simp, (((Below.refl _ _).alloc (Nat.le_refl _) _).alloc (by simp) _).alloc (by simp; omega) _, cell_alloc' _ (cell_alloc' _ e0), cell_alloc' _ e1.1, cell_alloc' _ e1.2, e2.1, e2.2⟩
/-- They lie as they were laid. -/
def Boxes (w W : World) (vs : Value) (x : Sp) : Prop :=
  W.cell? ⟨w.heap.size, 0, none⟩ = some vs ∧ W.cell? ⟨w.heap.size + 1, 0, none⟩ = some (.int .u64 x.1) ∧ W.cell? ⟨w.heap.size + 1, 1, none⟩ = some (.int .u64 x.2) ∧ W.cell? ⟨w.heap.size + 1 + 1, 0, none⟩ = some (.slice none 0 0) ∧ W.frozen? ⟨w.heap.size + 1 + 1, 0, none⟩ = false
theorem Boxes.below {w W W' : World} {vs : Value} {x : Sp} (h : Boxes w W vs x) (hb : Below W.heap.size W W') : Boxes w W' vs x := by
  obtain ⟨c0, c1, c2, c3, c4⟩ := h
  refine ⟨?_, ?_, ?_, ?_, ?_⟩
  · rw [hb.cell (World.block_lt_of_cell? W _ c0)]; exact c0
  · rw [hb.cell (World.block_lt_of_cell? W _ c1)]; exact c1
  · rw [hb.cell (World.block_lt_of_cell? W _ c2)]; exact c2
  · rw [hb.cell (World.block_lt_of_cell? W _ c3)]; exact c3
  · rw [hb.frozen (p := ⟨w.heap.size + 1 + 1, 0, none⟩) (World.block_lt_of_cell? W _ c3)]; exact c4
/-- Behind Of: the set of the span, and what lay before. -/
def Rest1 (w w2 : World) (x : Sp) (v2 : Value) : Prop := ∃ ts, SV w2 v2 ts ∧ OfR 18446744073709551615 [x] ts ∧ Below w.heap.size w w2 ∧ w.heap.size + 1 + 1 + 1 ≤ w2.heap.size
/-- Behind the call that makes the result. -/
def Rest2 (w w3 : World) (x : Sp) (keep : Bool → Bool → Bool) (s : List Sp) (v : Value) : Prop := ∃ rs, Own w3 (w.heap.size + 1 + 1 + 1) v rs ∧ (∃ ts, OfR 18446744073709551615 [x] ts ∧ Made 18446744073709551615 keep s ts rs) ∧ Below w.heap.size w w3
theorem one_sv {W : World} {g : Nat} {x : Sp} (h0 : W.cell? ⟨g, 0, none⟩ = some (.int .u64 x.1)) (h1 : W.cell? ⟨g, 1, none⟩ = some (.int .u64 x.2)) : SV W (.slice (some ⟨g, 0, none⟩) 1 1) [x] := by
  refine ⟨_, 1, rfl, Nat.le_refl _, by simp [maxLen], fun e => (by cases e), fun a e => (by cases e; exact ⟨g, 0, rfl, World.block_lt_of_cell? W _ h0⟩), fun j hj => ?_⟩
  obtain rfl : j = 0 := by simpa using hj
  exact ⟨g, 0, rfl, h0, h1⟩
theorem with1 {w W3 : World} {vs : Value} {x : Sp} (hx : Fits 18446744073709551615 [x]) (hz : W3.heap.size = w.heap.size + 1 + 1 + 1) (hb : Below w.heap.size w W3) (h : Boxes w W3 vs x) :
    Calls Try.prog 25 #[.slice (some ⟨w.heap.size + 1 + 1 + 1, 0, none⟩) 1 1] (W3.alloc (Obj.cells #[Value.int IntKind.u64 x.1, Value.int IntKind.u64 x.2] 102)).drew fun e w2 => ∃ a n c, e = .returned (.agg #[.slice a n c]) ∧ Boxes w w2 vs x ∧ Hid (Rest1 w w2 x (.slice a n c)) := by
  have hn := new2 hz (.int .u64 x.1) (.int .u64 x.2) 102
  have hbD : Below W3.heap.size W3 (W3.alloc (Obj.cells #[Value.int IntKind.u64 x.1, Value.int IntKind.u64 x.2] 102)).drew := ((Below.refl _ _).alloc (Nat.le_refl _) _).drew
  refine (of_any (one_sv (W := (W3.alloc (Obj.cells #[Value.int IntKind.u64 x.1, Value.int IntKind.u64 x.2] 102)).drew) hn.1 hn.2) hx (by simp)).mono ?_
  rintro e w2 ⟨v2, ts, rfl, ho, hr, hb2⟩
  obtain ⟨a, n, c, hv⟩ : ∃ a n c, v2 = .slice a n c := by
    obtain ⟨a, c, e, _⟩ := ho.sv
    exact ⟨a, _, c, e⟩
  subst hv
  refine ⟨a, n, c, rfl, (h.below hbD).below hb2, ts, ho.sv, hr, (hb.trans (hbD.mono (by omega))).trans (hb2.mono ?_), ?_⟩
  · have := hbD.size; omega
  · have := hbD.size; have := hb2.size; omega

theorem with2 {w w2 : World} {vs : Value} {s : List Sp} {x : Sp} {a : Option Addr} {n c : Nat} (hs : SV w vs s) (cs : Canon 18446744073709551615 s) (hl : s.length ≤ 137438953472) (h : Boxes w w2 vs x) (hr : Rest1 w w2 x (.slice a n c)) :
    Calls Try.prog 54 #[.agg #[vs], .agg #[.slice a n c]] w2 fun e w3 => ∃ a n c, e = .returned (.agg #[.slice a n c]) ∧ Boxes w w3 vs x ∧ Hid (Rest2 w w3 x (fun a b => a || b) s (.slice a n c)) := by
  obtain ⟨ts, h2, ht, hb, hz⟩ := hr
  refine (or_any (hs.below hb (Nat.le_refl _)) h2 cs ht.1 (by have := ht.2.2; simp at this; omega)).mono ?_
  rintro e w3 ⟨v3, rs, rfl, ho, hm, hb3⟩
  obtain ⟨a3, n3, c3, hv⟩ : ∃ a n c, v3 = .slice a n c := by
    obtain ⟨a, c, e, _⟩ := ho.sv
    exact ⟨a, _, c, e⟩
  subst hv
  exact ⟨a3, n3, c3, rfl, h.below hb3, rs, ho.lower hz, ⟨ts, ht, hm⟩, hb.trans (hb3.mono (by omega))⟩
set_option maxHeartbeats 2000000 in
theorem with_any {w : World} {vs : Value} {s : List Sp} {x : Sp} (hs : SV w vs s) (cs : Canon 18446744073709551615 s) (hl : s.length ≤ 137438953472) (hx : Fits 18446744073709551615 [x]) :
    Calls Try.prog 38 #[.agg #[vs], .agg #[.int .u64 x.1, .int .u64 x.2]] w (SetPost w fun rs => ∃ ts, OfR 18446744073709551615 [x] ts ∧ Made 18446744073709551615 (fun a b => a || b) s ts rs) := by
  have HS : Hid (SV w vs s) := hs
  have HX : Hid (Fits 18446744073709551615 [x]) := hx
  have HCs : Hid (Canon 18446744073709551615 s) := cs
  clear hs hx cs
  go_enter Try.func38, Try.ntmps38
  go_wp2_with fail
  obtain ⟨W3, hW3, hz, hb0, c0, c1, c2, c3, c4⟩ := three_boxes w vs x
  have H1 := with1 HX.out hz hb0 ⟨c0, c1, c2, c3, c4⟩
  have HC1 : Hid (Calls Try.prog 25 #[.slice (some ⟨w.heap.size + 1 + 1 + 1, 0, none⟩) 1 1] (W3.alloc (Obj.cells #[Value.int IntKind.u64 x.1, Value.int IntKind.u64 x.2] 102)).drew fun e w2 => ∃ a n c, e = .returned (.agg #[.slice a n c]) ∧ Boxes w w2 vs x ∧ Hid (Rest1 w w2 x (.slice a n c))) := H1
  rw [hW3]
  clear hW3 hb0 H1
  go_region_held (fun w' => w'.cell? ⟨w.heap.size, 0, none⟩ = some vs ∧ w'.cell? ⟨w.heap.size + 1, 0, none⟩ = some (.int .u64 x.1) ∧ w'.cell? ⟨w.heap.size + 1, 1, none⟩ = some (.int .u64 x.2)) (first | exact ⟨(set_other (by omega)).trans (by assumption), (set_other (by omega)).trans (by assumption), (set_other (by omega)).trans (by assumption)⟩ | go_keep)
    (first | (go_at_call 25; refine HC1.out.mono ?_; rintro e w2 ⟨a2, n2, k2, rfl, hbox, HR1⟩; have HX2 : Hid (Boxes w w2 vs x) := hbox; obtain ⟨d0, d1, d2, d3, d4⟩ := hbox) | (go_at_call 54; refine (with2 HS.out HCs.out hl HX2.out HR1.out).mono ?_; rintro e w3 ⟨a3, n3, k3, rfl, hbox3, HR2⟩; obtain ⟨b0, b1, b2, b3, b4⟩ := hbox3))
  go_wp2_with fail
  have e0 := World.cell?_setCell_same' w3 ⟨w.heap.size + 1 + 1, 0, none⟩ (.slice a3 n3 k3) (by rw [b3]; rfl)
  refine bodyPost_ret (v := .agg #[.slice a3 n3 k3]) (by simp [results, Try.results38, go_sem, e0]) rfl ?_
  obtain ⟨rs, ho, hm, hb⟩ := HR2.out
  exact ⟨_, rs, rfl, (ho.low (by omega) _ _).lower (by omega), hm, hb.setCell (p := ⟨w.heap.size + 1 + 1, 0, none⟩) (by show w.heap.size ≤ w.heap.size + 1 + 1; omega) _⟩

end Go.Proofs.Ytehedllcdpjebaa.U64
