/- Clone of a machine; its Bus. Own work. -/
import Derived.Test.YtmaahompmgmkfaaBTwin
import Derived.Test.YtmaahompmgmkfaaBStore
import Derived.Test.YtmaahompmgmkfaaBNew
namespace Go.Proofs.Ytmaahompmgmkfaa
open Go.RowKit Go.Maps Go.Proofs.Ytmaahompmgmkfaa.Sp
theorem Mac.rows {w : World} {m B : Nat} {V : Value × Value × Value} {T : Nat → Option Nat} {M : Nat → Nat} {rs ds : List Sp} {L S X : Nat} (h : Mac w m B V T M rs ds L S X) :
    U64.SV w V.1 rs ∧ U64.SV w V.2.1 ds ∧ w.cell? ⟨m, 3, none⟩ = some V.1 ∧ w.cell? ⟨m, 4, none⟩ = some V.2.1 ∧ w.cell? ⟨m, 5, none⟩ = some V.2.2 := by
  obtain ⟨G, h0, h1, h2, _⟩ := h
  refine ⟨h1, h2, ?_, ?_, ?_⟩ <;> rw [cell_of_row w m _ _ _ _ h0] <;> rfl
/-- what a clone is -/
def ClonePost (w : World) (V : Value × Value × Value) (M : Nat → Nat) (rs ds : List Sp) (e : Ending) (w' : World) : Prop :=
  ∃ m' B' V' T', e = .returned (.pointer (some ⟨m', 0, none⟩)) ∧ Below w.heap.size w w' ∧ Mac w' m' B' V' T' M rs ds 0 0 0 ∧ V'.2.2 = V.2.2 ∧ w.heap.size ≤ m' ∧ (∀ j, Foot B' T' j → w.heap.size ≤ j) ∧ ∀ v, v = V'.1 ∨ v = V'.2.1 → ∀ j, v.ownBlock = some j → w.heap.size ≤ j
set_option maxRecDepth 100000 in
set_option maxHeartbeats 8000000 in
theorem bus_any {w : World} {m B : Nat} {V : Value × Value × Value} {T : Nat → Option Nat} {M : Nat → Nat} {rs ds : List Sp} {L S X : Nat} (h : Mac w m B V T M rs ds L S X) (hl : rs.length ≤ 1099511627776) (hl2 : ds.length ≤ 1099511627776) :
    Calls Try.prog 6 #[.pointer (some ⟨m, 0, none⟩)] w fun e w' => ∃ a n c a2 n2 c2, e = .returned (.agg #[.slice a n c, .slice a2 n2 c2]) ∧ Hid (Below w.heap.size w w') ∧ Hid (U64.SV w' (.slice a n c) rs ∧ U64.SV w' (.slice a2 n2 c2) ds) := by
  obtain ⟨s1, s2, x3, x4, x5⟩ := h.rows
  obtain ⟨vr, vd, vg⟩ := V
  obtain ⟨ar, cr, hvr, _⟩ := id s1
  obtain ⟨ad, cd, hvd, _⟩ := id s2
  have hvr : vr = .slice ar rs.length cr := hvr
  have hvd : vd = .slice ad ds.length cd := hvd
  subst hvr hvd
  dsimp only at x3 x4 s1 s2
  have hb1 : Below w.heap.size w (w.alloc (.cells #[.slice none 0 0, .slice none 0 0] 24)) := (Below.refl _ _).alloc (Nat.le_refl _) _
  have HB1 : Hid (Below w.heap.size w (w.alloc (.cells #[.slice none 0 0, .slice none 0 0] 24))) := hb1
  have HTw : Hid (Calls Try.prog 19 #[.agg #[.slice ar rs.length cr, .slice ad ds.length cd]] (w.alloc (.cells #[.slice none 0 0, .slice none 0 0] 24)) fun e w' => ∃ a n c a2 n2 c2, e = .returned (.agg #[.slice a n c, .slice a2 n2 c2]) ∧ Hid (BoxB w' w.heap.size (.slice none 0 0) (.slice none 0 0)) ∧ Hid (Below w.heap.size w w') ∧ Hid (U64.SV w' (.slice a n c) rs ∧ U64.SV w' (.slice a2 n2 c2) ds ∧ (∀ j, (Value.slice a n c).ownBlock = some j → w.heap.size < j) ∧ ∀ j, (Value.slice a2 n2 c2).ownBlock = some j → w.heap.size < j)) := by
    refine (twin_any (s1.below hb1 (Nat.le_refl _)) (s2.below hb1 (Nat.le_refl _)) hl hl2).mono ?_
    rintro e w' ⟨a, n, c, a2, n2, c2, rfl, hb, h1, h2, h3, h4⟩
    refine ⟨a, n, c, a2, n2, c2, rfl, (show BoxB _ w.heap.size _ _ from heap_alloc_new w _).below hb, hb1.trans (hb.mono hb1.size), h1, h2, fun j e => ?_, fun j e => ?_⟩
    · have := h3 j e; simp at this; omega
    · have := h4 j e; simp at this; omega
  obtain ⟨_, _, y3, y4, _⟩ := (h.below hb1).rows
  dsimp only at y3 y4
  clear s1 s2 h hb1
  go_enter Try.func6, Try.ntmps6
  go_wp2_with fail
  refine HTw.out.mono ?_
  rintro e w4 ⟨a, n, c, a2, n2, c2, rfl, HY4, HB4, HS4⟩
  obtain ⟨d0, d1, d2, d3⟩ := HY4.out.cells
  clear HTw y3 y4
  go_wp2_with fail
  clear d0 d1 d2 d3
  obtain ⟨d0, d1, _⟩ := (HY4.out.set (.slice a n c) (.slice a2 n2 c2)).cells
  refine bodyPost_ret (v := .agg #[.slice a n c, .slice a2 n2 c2]) (by simp [results, Try.results6, go_sem, d0, d1]) rfl ?_
  obtain ⟨h1, h2, h3, h4⟩ := HS4.out
  have hk := Keeps.two' w4 w.heap.size (.slice a n c) (.slice a2 n2 c2)
  refine ⟨a, n, c, a2, n2, c2, rfl, ((HB4.out.setCell (p := ⟨w.heap.size, 0, none⟩) (Nat.le_refl _) _).setCell (p := ⟨w.heap.size, 1, none⟩) (Nat.le_refl _) _ : Below _ _ _), h1.keeps hk (fun j e e' => ?_), h2.keeps hk (fun j e e' => ?_)⟩
  · have := h3 j e; omega
  · have := h4 j e; omega
end Go.Proofs.Ytmaahompmgmkfaa
