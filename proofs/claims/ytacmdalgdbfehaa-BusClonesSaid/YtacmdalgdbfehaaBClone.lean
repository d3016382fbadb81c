/- Clone of a machine; its Bus. Own work. -/
import Derived.Test.YtacmdalgdbfehaaBTwin
import Derived.Test.YtacmdalgdbfehaaBStore
import Derived.Test.YtacmdalgdbfehaaBNew
namespace Go.Proofs.Ytacmdalgdbfehaa
open Go.RowKit Go.Maps Go.Proofs.Ytacmdalgdbfehaa.Sp
theorem Mac.rows {w : World} {m B : Nat} {V : Value × Value × Value} {T : Nat → Option Nat} {M : Nat → Nat} {rs ds : List Sp} {L S X : Nat} (h : Mac w m B V T M rs ds L S X) :
    U64.SV w V.1 rs ∧ U64.SV w V.2.1 ds ∧ w.cell? ⟨m, 3, none⟩ = some V.1 ∧ w.cell? ⟨m, 4, none⟩ = some V.2.1 ∧ w.cell? ⟨m, 5, none⟩ = some V.2.2 := by
  obtain ⟨G, h0, h1, h2, _⟩ := h
  refine ⟨h1, h2, ?_, ?_, ?_⟩ <;> rw [cell_of_row w m _ _ _ _ h0] <;> rfl
/-- what a clone is -/
def ClonePost (w : World) (V : Value × Value × Value) (M : Nat → Nat) (rs ds : List Sp) (e : Ending) (w' : World) : Prop :=
  ∃ m' B' V' T', e = .returned (.pointer (some ⟨m', 0, none⟩)) ∧ Below w.heap.size w w' ∧ Mac w' m' B' V' T' M rs ds 0 0 0 ∧ V'.2.2 = V.2.2 ∧ w.heap.size ≤ m' ∧ (∀ j, Foot B' T' j → w.heap.size ≤ j) ∧ ∀ v, v = V'.1 ∨ v = V'.2.1 → ∀ j, v.ownBlock = some j → w.heap.size ≤ j
set_option maxRecDepth 100000 in
set_option maxHeartbeats 8000000 in
theorem clone_any {w : World} {m B : Nat} {V : Value × Value × Value} {T : Nat → Option Nat} {M : Nat → Nat} {rs ds : List Sp} {L S X : Nat} (h : Mac w m B V T M rs ds L S X) (hl : rs.length ≤ 1099511627776) (hl2 : ds.length ≤ 1099511627776) :
    Calls Try.prog 17 #[.pointer (some ⟨m, 0, none⟩)] w (ClonePost w V M rs ds) := by
  have HM : Hid (Mac w m B V T M rs ds L S X) := h
  obtain ⟨s1, s2, x3, x4, x5⟩ := h.rows
  have x6 := h.cells.2.2.2.1
  obtain ⟨vr, vd, vg⟩ := V
  obtain ⟨ar, cr, hvr, _⟩ := id s1
  obtain ⟨ad, cd, hvd, _⟩ := id s2
  have hvr : vr = .slice ar rs.length cr := hvr
  have hvd : vd = .slice ad ds.length cd := hvd
  subst hvr hvd
  obtain ⟨G, _, _, _, s5, _⟩ := id h
  obtain ⟨ag, cg, hvg, _⟩ := id s5
  have hvg : vg = .slice ag G.length cg := hvg
  subst hvg
  clear s5 h
  dsimp only at x3 x4 x5 s1 s2
  have HTw : Hid (∀ W, Below w.heap.size w W → Calls Try.prog 27 #[.agg #[.slice ar rs.length cr, .slice ad ds.length cd]] W fun e w' => ∃ a n c a2 n2 c2, e = .returned (.agg #[.slice a n c, .slice a2 n2 c2]) ∧ (w'.cell? ⟨m, 3, none⟩ = some (.slice ar rs.length cr) ∧ w'.cell? ⟨m, 4, none⟩ = some (.slice ad ds.length cd) ∧ w'.cell? ⟨m, 5, none⟩ = some (.slice ag G.length cg) ∧ w'.cell? ⟨m, 6, none⟩ = some (.map (some B))) ∧ Hid (Below w.heap.size w w') ∧ Hid (U64.SV w' (.slice a n c) rs ∧ U64.SV w' (.slice a2 n2 c2) ds ∧ (∀ j, (Value.slice a n c).ownBlock = some j → w.heap.size ≤ j) ∧ ∀ j, (Value.slice a2 n2 c2).ownBlock = some j → w.heap.size ≤ j)) := fun W hW => by
    refine (twin_any (s1.below hW (Nat.le_refl _)) (s2.below hW (Nat.le_refl _)) hl hl2).mono ?_
    rintro e w' ⟨a, n, c, a2, n2, c2, rfl, hb, h1, h2, h3, h4⟩
    have hb' := hW.trans (hb.mono hW.size)
    have hm' := HM.out.below hb'
    obtain ⟨_, _, k3, k4, k5⟩ := hm'.rows
    exact ⟨a, n, c, a2, n2, c2, rfl, ⟨k3, k4, k5, hm'.cells.2.2.2.1⟩, hb', h1, h2, fun j e => Nat.le_trans hW.size (h3 j e), fun j e => Nat.le_trans hW.size (h4 j e)⟩
  have HPt : Hid (∀ W, Below w.heap.size w W → Calls Try.prog 33 #[.map (some B)] W fun e w' => ∃ B', e = .returned (.map (some B')) ∧ (w'.cell? ⟨m, 3, none⟩ = some (.slice ar rs.length cr) ∧ w'.cell? ⟨m, 4, none⟩ = some (.slice ad ds.length cd) ∧ w'.cell? ⟨m, 5, none⟩ = some (.slice ag G.length cg) ∧ w'.cell? ⟨m, 6, none⟩ = some (.map (some B))) ∧ Hid (Below W.heap.size W w' ∧ ∃ T', Held w' B' T' M ∧ ∀ j, Foot B' T' j → W.heap.size ≤ j)) := fun W hW => by
    refine (ptwin_any (HM.out.below hW).held).mono ?_
    rintro e w' ⟨B', T', rfl, h1, hb, h2⟩
    have hm' := HM.out.below (hW.trans (hb.mono hW.size))
    obtain ⟨_, _, k3, k4, k5⟩ := hm'.rows
    exact ⟨B', rfl, ⟨k3, k4, k5, hm'.cells.2.2.2.1⟩, hb, T', h1, h2⟩
  clear s1 s2
  go_enter Try.func17, Try.ntmps17
  go_wp2_with fail
  go_region_held3 (fun w' => w'.cell? ⟨m, 3, none⟩ = some (.slice ar rs.length cr) ∧ w'.cell? ⟨m, 4, none⟩ = some (.slice ad ds.length cd) ∧ w'.cell? ⟨m, 5, none⟩ = some (.slice ag G.length cg) ∧ w'.cell? ⟨m, 6, none⟩ = some (.map (some B))) (go_keep) (first | (go_at_call 27; refine (HTw.out _ (Below.refl _ _).drew).mono ?_; rintro e w7 ⟨a7, n7, c7, a8, n8, c8, rfl, ⟨k3, k4, k5, k6⟩, HB7, HS7⟩) | (go_at_call 33; refine (HPt.out _ HB7.out).mono ?_; rintro e w8 ⟨B', rfl, ⟨j3, j4, j5, j6⟩, HS8⟩))
  go_wp2_with fail
  go_ret
  obtain ⟨s1, s2, s3, s4⟩ := HS7.out
  obtain ⟨hb8, T', hh, hf⟩ := HS8.out
  have z7 := HB7.out.size
  have z8 := hb8.size
  have hb9 : Below w8.heap.size w8 (w8.alloc (Obj.cells #[.int .i64 0, .int .i64 0, .int .i64 0, .slice a7 n7 c7, .slice a8 n8 c8, .slice ag G.length cg, .map (some B')] 65)) := (Below.refl _ _).alloc (Nat.le_refl _) _
  have hb79 := hb8.trans (hb9.mono z8)
  have hbw := HB7.out.trans (hb79.mono z7)
  obtain ⟨G2, _, _, _, g3, g4, g5, g6, g7, _, _, _⟩ := HM.out
  have q1 := fun j e => sv_lt s1 j e
  have q2 := fun j e => sv_lt s2 j e
  have q3 := fun j e => sv_lt g3 j e
  have hfl := fun j hj => hh.foot_lt (j := j) hj
  refine ⟨w8.heap.size, B', (.slice a7 n7 c7, .slice a8 n8 c8, .slice ag G.length cg), T', rfl, hbw, ⟨G2, heap_alloc_new w8 _, s1.below hb79 (Nat.le_refl _), s2.below hb79 (Nat.le_refl _), g3.below hbw (Nat.le_refl _), g4, g5, g6, g7, hh.below hb9, fun hj => by have := hfl _ hj; omega, fun v hv j e => ?_⟩, rfl, by omega, fun j hj => by have := hf j hj; omega, fun v hv j e => ?_⟩
  · rcases hv with rfl | rfl | rfl
    · have h1 := q1 j e
      exact ⟨fun hj => (by have := hf j hj; omega), by omega⟩
    · have h1 := q2 j e
      exact ⟨fun hj => (by have := hf j hj; omega), by omega⟩
    · have h1 := q3 j e
      exact ⟨fun hj => (by have := hf j hj; omega), by omega⟩
  · rcases hv with rfl | rfl
    · exact s3 j e
    · exact s4 j e
set_option maxRecDepth 100000 in
set_option maxHeartbeats 8000000 in
theorem bus_any {w : World} {m B : Nat} {V : Value × Value × Value} {T : Nat → Option Nat} {M : Nat → Nat} {rs ds : List Sp} {L S X : Nat} (h : Mac w m B V T M rs ds L S X) (hl : rs.length ≤ 1099511627776) (hl2 : ds.length ≤ 1099511627776) :
    Calls Try.prog 7 #[.pointer (some ⟨m, 0, none⟩)] w fun e w' => ∃ a n c a2 n2 c2, e = .returned (.agg #[.slice a n c, .slice a2 n2 c2]) ∧ Hid (Below w.heap.size w w') ∧ Hid (U64.SV w' (.slice a n c) rs ∧ U64.SV w' (.slice a2 n2 c2) ds) := by
  obtain ⟨s1, s2, x3, x4, x5⟩ := h.rows
  obtain ⟨vr, vd, vg⟩ := V
  obtain ⟨ar, cr, hvr, _⟩ := id s1
  obtain ⟨ad, cd, hvd, _⟩ := id s2
  have hvr : vr = .slice ar rs.length cr := hvr
  have hvd : vd = .slice ad ds.length cd := hvd
  subst hvr hvd
  dsimp only at x3 x4 s1 s2
  have hb1 : Below w.heap.size w (w.alloc (.cells #[.slice none 0 0, .slice none 0 0] 24)) := (Below.refl _ _).alloc (Nat.le_refl _) _
  have HB1 : Hid (Below w.heap.size w (w.alloc (.cells #[.slice none 0 0, .slice none 0 0] 24))) := hb1
  have HTw : Hid (Calls Try.prog 27 #[.agg #[.slice ar rs.length cr, .slice ad ds.length cd]] (w.alloc (.cells #[.slice none 0 0, .slice none 0 0] 24)) fun e w' => ∃ a n c a2 n2 c2, e = .returned (.agg #[.slice a n c, .slice a2 n2 c2]) ∧ Hid (BoxB w' w.heap.size (.slice none 0 0) (.slice none 0 0)) ∧ Hid (Below w.heap.size w w') ∧ Hid (U64.SV w' (.slice a n c) rs ∧ U64.SV w' (.slice a2 n2 c2) ds ∧ (∀ j, (Value.slice a n c).ownBlock = some j → w.heap.size < j) ∧ ∀ j, (Value.slice a2 n2 c2).ownBlock = some j → w.heap.size < j)) := by
    refine (twin_any (s1.below hb1 (Nat.le_refl _)) (s2.below hb1 (Nat.le_refl _)) hl hl2).mono ?_
    rintro e w' ⟨a, n, c, a2, n2, c2, rfl, hb, h1, h2, h3, h4⟩
    refine ⟨a, n, c, a2, n2, c2, rfl, (show BoxB _ w.heap.size _ _ from heap_alloc_new w _).below hb, hb1.trans (hb.mono hb1.size), h1, h2, fun j e => ?_, fun j e => ?_⟩
    · have := h3 j e; simp at this; omega
    · have := h4 j e; simp at this; omega
  obtain ⟨_, _, y3, y4, _⟩ := (h.below hb1).rows
  dsimp only at y3 y4
  clear s1 s2 h hb1
  go_enter Try.func7, Try.ntmps7
  go_wp2_with fail
  refine HTw.out.mono ?_
  rintro e w4 ⟨a, n, c, a2, n2, c2, rfl, HY4, HB4, HS4⟩
  obtain ⟨d0, d1, d2, d3⟩ := HY4.out.cells
  clear HTw y3 y4
  go_wp2_with fail
  clear d0 d1 d2 d3
  obtain ⟨d0, d1, _⟩ := (HY4.out.set (.slice a n c) (.slice a2 n2 c2)).cells
  refine bodyPost_ret (v := .agg #[.slice a n c, .slice a2 n2 c2]) (by simp [results, Try.results7, go_sem, d0, d1]) rfl ?_
  obtain ⟨h1, h2, h3, h4⟩ := HS4.out
  have hk := Keeps.two' w4 w.heap.size (.slice a n c) (.slice a2 n2 c2)
  refine ⟨a, n, c, a2, n2, c2, rfl, ((HB4.out.setCell (p := ⟨w.heap.size, 0, none⟩) (Nat.le_refl _) _).setCell (p := ⟨w.heap.size, 1, none⟩) (Nat.le_refl _) _ : Below _ _ _), h1.keeps hk (fun j e e' => ?_), h2.keeps hk (fun j e e' => ?_)⟩
  · have := h3 j e; omega
  · have := h4 j e; omega
end Go.Proofs.Ytacmdalgdbfehaa
