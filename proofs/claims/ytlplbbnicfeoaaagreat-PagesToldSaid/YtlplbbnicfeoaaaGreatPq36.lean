import Derived.Test.YtlplbbnicfeoaaaGreatPq34
import Derived.Test.YtlplbbnicfeoaaaGreatPq35
/- twin, New. Own work. -/
namespace Go.Proofs.YtlplbbnicfeoaaaGreat
open Go.RowKit Go.Maps Go.Shelf Go.Proofs.YtlplbbnicfeoaaaGreat.Sp
theorem info_range : (Tryz.prog.info? 50).map (fun i => (i.zero, i.size, i.bytes)) = some (some (.agg #[.int .u64 0, .int .u64 0]), 2, 16) := by kernel_rfl
theorem rclone_any {w : World} {v : Value} {xs : List Sp} (hv : U64.SV w v xs) (hl : xs.length ≤ 1099511627776) :
    Calls Tryz.prog 71 #[v] w fun e w' => ∃ a n c, e = .returned (.slice a n c) ∧ Below w.heap.size w w' ∧ Hid (U64.SV w' (.slice a n c) xs ∧ ∀ j, (Value.slice a n c).ownBlock = some j → w.heap.size ≤ j) := by
  obtain ⟨ao, cap, rfl, h1, h2, h3, h4, h5⟩ := hv
  cases ao with
  | none =>
    obtain ⟨rfl, rfl⟩ := h3 rfl
    have := AnyE.slices_Clone_nil cloneRange 0 0 w
    refine Calls.mono this ?_
    rintro e w' ⟨rfl, rfl⟩
    exact ⟨none, 0, 0, rfl, Below.refl _ _, U64.SV.nil _, fun j e => by cases e⟩
  | some a =>
    obtain ⟨g, off, rfl, hg⟩ := h4 _ rfl
    obtain ⟨i, hi, hz0, hz1, hz2⟩ := info_parts info_range
    have := AnyE.slices_Clone cloneRange i (.agg #[.int .u64 0, .int .u64 0]) 2 16 hi hz0 hz1 hz2 rfl (by omega) Tryz.sizeOf50 g off xs.length cap (U64.encs xs) w (U64.encs_length xs) (by unfold maxLen; omega) (by omega) (fun j u hj => by
      have hjl : j < xs.length * 2 := by rw [← U64.encs_length]; exact (List.getElem?_eq_some_iff.1 hj).1
      obtain ⟨g', off', e', d0, d1⟩ := h5 (j / 2) (by omega)
      cases e'
      rcases Nat.mod_two_eq_zero_or_one j with q | q
      · have := U64.encs_get0 xs (j / 2) (by omega)
        rw [show j / 2 * 2 = j by omega] at this d0
        rw [d0, ← this, hj]
      · have := U64.encs_get1 xs (j / 2) (by omega)
        rw [show j / 2 * 2 + 1 = j by omega] at this
        rw [show off + j / 2 * 2 + 1 = off + j by omega] at d1
        rw [d1, ← this, hj]) (U64.encs_one xs)
    refine Calls.mono this ?_
    rintro e w' ⟨v', rfl, ho, _, hb⟩
    have hlt := World.ownsRow.lt ho
    rcases ho.2 with ⟨rfl, h0⟩ | ⟨g2, cap2, cur, rfl, hb2, hg2, hnc, hcm, hcs, ht⟩
    · obtain rfl : xs = [] := List.eq_nil_of_length_eq_zero h0
      exact ⟨none, 0, 0, rfl, hb, U64.SV.nil _, fun j e => by cases e⟩
    · refine ⟨_, _, _, rfl, hb, ⟨_, cap2, rfl, hnc, hcm, fun e => (by cases e), fun a e => (by cases e; exact ⟨g2, 0, rfl, (Array.getElem?_eq_some_iff.1 hg2).1⟩), fun j hj => ⟨g2, 0, rfl, ?_, ?_⟩⟩, fun j e => (hlt j e).1⟩
      · rw [Nat.zero_add, cell_of_row w' g2 (j * 2) _ _ _ hg2, ← Array.getElem?_toList, ← U64.encs_get0 xs j hj, ← ht, List.getElem?_take_of_lt (by omega)]
      · rw [Nat.zero_add, cell_of_row w' g2 (j * 2 + 1) _ _ _ hg2, ← Array.getElem?_toList, ← U64.encs_get1 xs j hj, ← ht, List.getElem?_take_of_lt (by omega)]
theorem Keeps.two' (w : World) (b : Nat) (u v : Value) : Keeps (fun j => j = b) w ((w.setCell ⟨b, 0, none⟩ u).setCell ⟨b, 1, none⟩ v) :=
  (Keeps.setCell w b 0 u).trans (Keeps.setCell _ b 1 v) (fun _ _ e => e)
/-- behind New's first stake -/
def BoxB (w : World) (b : Nat) (x y : Value) : Prop := w.heap[b]? = some (.cells #[x, y] 53 (0, 0))
theorem BoxB.cells {w : World} {b : Nat} {x y : Value} (h : BoxB w b x y) : w.cell? ⟨b, 0, none⟩ = some x ∧ w.cell? ⟨b, 1, none⟩ = some y ∧ w.frozen? ⟨b, 0, none⟩ = false ∧ w.frozen? ⟨b, 1, none⟩ = false := by
  refine ⟨?_, ?_, by simp [World.frozen?, show w.heap[b]? = _ from h], by simp [World.frozen?, show w.heap[b]? = _ from h]⟩ <;> rw [cell_of_row w b _ _ _ _ h] <;> rfl
theorem BoxB.lt {w : World} {b : Nat} {x y : Value} (h : BoxB w b x y) : b < w.heap.size := (Array.getElem?_eq_some_iff.1 h).1
theorem BoxB.below {w w' : World} {b : Nat} {x y : Value} (h : BoxB w b x y) (hb : Below w.heap.size w w') : BoxB w' b x y := (hb.block b h.lt).trans h
theorem BoxB.keeps {Z : Nat → Prop} {w w' : World} {b : Nat} {x y : Value} (h : BoxB w b x y) (hk : Keeps Z w w') (hn : ¬ Z b) : BoxB w' b x y := (hk.block b h.lt hn).trans h
theorem BoxB.set {w : World} {b : Nat} {x y : Value} (h : BoxB w b x y) (x' y' : Value) : BoxB ((w.setCell ⟨b, 0, none⟩ x').setCell ⟨b, 1, none⟩ y') b x' y' := by
  have h' : w.heap[b]? = _ := h
  simp [BoxB, World.setCell, Array.getElem?_modify, h']
set_option maxRecDepth 100000 in
set_option maxHeartbeats 4000000 in
theorem twin_any {w : World} {vr vd : Value} {rs ds : List Sp} (hr : U64.SV w vr rs) (hd : U64.SV w vd ds) (hl : rs.length ≤ 1099511627776) (hl2 : ds.length ≤ 1099511627776) :
    Calls Tryz.prog 42 #[.agg #[vr, vd]] w fun e w' => ∃ a n c a2 n2 c2, e = .returned (.agg #[.slice a n c, .slice a2 n2 c2]) ∧ Below w.heap.size w w' ∧ Hid (U64.SV w' (.slice a n c) rs ∧ U64.SV w' (.slice a2 n2 c2) ds ∧ (∀ j, (Value.slice a n c).ownBlock = some j → w.heap.size ≤ j) ∧ ∀ j, (Value.slice a2 n2 c2).ownBlock = some j → w.heap.size ≤ j) := by
  have HR : Hid (∀ W, Below w.heap.size w W → Calls Tryz.prog 71 #[vr] W fun e w' => ∃ a n c, e = .returned (.slice a n c) ∧ Below W.heap.size W w' ∧ Hid (U64.SV w' (.slice a n c) rs ∧ ∀ j, (Value.slice a n c).ownBlock = some j → W.heap.size ≤ j)) := fun W hW => rclone_any (hr.below hW (Nat.le_refl _)) hl
  have HD : Hid (∀ W, Below w.heap.size w W → Calls Tryz.prog 71 #[vd] W fun e w' => ∃ a n c, e = .returned (.slice a n c) ∧ Below W.heap.size W w' ∧ Hid (U64.SV w' (.slice a n c) ds ∧ ∀ j, (Value.slice a n c).ownBlock = some j → W.heap.size ≤ j)) := fun W hW => rclone_any (hd.below hW (Nat.le_refl _)) hl2
  clear hr hd
  go_enter Tryz.func42, Tryz.ntmps42
  go_wp2_with fail
  obtain ⟨W2, hW2⟩ : ∃ W2, (w.alloc (Obj.cells #[vr, vd] 53)).alloc (Obj.cells #[.slice none 0 0, .slice none 0 0] 53) = W2 := ⟨_, rfl⟩
  have HB2 : Hid (Below w.heap.size w W2) := hW2 ▸ ((Below.refl _ _).alloc (Nat.le_refl _) _).alloc (by simp) _
  have HX2 : Hid (BoxB W2 w.heap.size vr vd) := hW2 ▸ (show BoxB (w.alloc (Obj.cells #[vr, vd] 53)) w.heap.size vr vd from heap_alloc_new w _).below ((Below.refl _ _).alloc (Nat.le_refl _) _)
  have HY2 : Hid (BoxB W2 (w.heap.size + 1) (.slice none 0 0) (.slice none 0 0)) := by
    have := heap_alloc_new (w.alloc (Obj.cells #[vr, vd] 53)) (Obj.cells #[.slice none 0 0, .slice none 0 0] 53)
    rw [show (w.alloc (Obj.cells #[vr, vd] 53)).heap.size = w.heap.size + 1 by simp, hW2] at this
    exact this
  rw [hW2]
  clear hW2
  obtain ⟨x0, x1, _, _⟩ := HX2.out.cells
  have HC1 : Hid (Calls Tryz.prog 71 #[vr] W2.drew fun e w' => ∃ a n c, e = .returned (.slice a n c) ∧ (w'.cell? ⟨w.heap.size, 0, none⟩ = some vr ∧ w'.cell? ⟨w.heap.size, 1, none⟩ = some vd) ∧ Hid (Below W2.heap.size W2 w') ∧ Hid (U64.SV w' (.slice a n c) rs ∧ ∀ j, (Value.slice a n c).ownBlock = some j → W2.heap.size ≤ j)) := by
    refine (HR.out _ HB2.out.drew).mono ?_
    rintro e w' ⟨a, n, c, rfl, hb, h⟩
    have hb' : Below W2.heap.size W2 w' := ⟨hb.os, hb.tape, hb.output, hb.size, hb.block⟩
    obtain ⟨y0, y1, _⟩ := (HX2.out.below hb').cells
    exact ⟨a, n, c, rfl, ⟨y0, y1⟩, hb', h⟩
  have HC2 : Hid (∀ w3, Below W2.heap.size W2 w3 → Calls Tryz.prog 71 #[vd] w3 fun e w' => ∃ a n c, e = .returned (.slice a n c) ∧ (w'.cell? ⟨w.heap.size, 0, none⟩ = some vr ∧ w'.cell? ⟨w.heap.size, 1, none⟩ = some vd) ∧ (w'.cell? ⟨w.heap.size + 1, 0, none⟩ = some (.slice none 0 0) ∧ w'.cell? ⟨w.heap.size + 1, 1, none⟩ = some (.slice none 0 0) ∧ w'.frozen? ⟨w.heap.size + 1, 0, none⟩ = false ∧ w'.frozen? ⟨w.heap.size + 1, 1, none⟩ = false) ∧ Hid (Below w3.heap.size w3 w') ∧ Hid (U64.SV w' (.slice a n c) ds ∧ ∀ j, (Value.slice a n c).ownBlock = some j → w3.heap.size ≤ j)) := fun w3 hb3 => by
    refine (HD.out _ (HB2.out.trans (hb3.mono HB2.out.size))).mono ?_
    rintro e w' ⟨a, n, c, rfl, hb, h⟩
    have hb' : Below W2.heap.size W2 w' := hb3.trans (hb.mono hb3.size)
    obtain ⟨y0, y1, _⟩ := (HX2.out.below hb').cells
    exact ⟨a, n, c, rfl, ⟨y0, y1⟩, (HY2.out.below hb').cells, hb, h⟩
  have hne : w.heap.size + 1 ≠ w.heap.size := by omega
  go_region_held3 (fun w' => w'.cell? ⟨w.heap.size, 0, none⟩ = some vr ∧ w'.cell? ⟨w.heap.size, 1, none⟩ = some vd) (go_keep) (first | (go_at_call 71; first | (refine HC1.out.mono ?_; rintro e w3 ⟨a, n, c, rfl, ⟨d0, d1⟩, HB3, HS3⟩) | (refine (HC2.out _ HB3.out).mono ?_; rintro e w4 ⟨a2, n2, c2, rfl, ⟨f0, f1⟩, ⟨k0, k1, k2, k3⟩, HB4, HS4⟩)))
  go_wp2_with fail
  have hY4 : BoxB w4 (w.heap.size + 1) (.slice none 0 0) (.slice none 0 0) := HY2.out.below (HB3.out.trans (HB4.out.mono HB3.out.size))
  obtain ⟨d0, d1, _⟩ := (hY4.set (.slice a n c) (.slice a2 n2 c2)).cells
  refine bodyPost_ret (v := .agg #[.slice a n c, .slice a2 n2 c2]) (by simp [results, Tryz.results42, go_sem, d0, d1]) rfl ?_
  have hlt := HY2.out.lt
  have h3 := HB3.out.size
  have h2 := HB2.out.size
  have hk := Keeps.two' w4 (w.heap.size + 1) (.slice a n c) (.slice a2 n2 c2)
  refine ⟨a, n, c, a2, n2, c2, rfl, ((HB2.out.trans ((HB3.out.trans (HB4.out.mono HB3.out.size)).mono HB2.out.size)).setCell (p := ⟨w.heap.size + 1, 0, none⟩) (show w.heap.size ≤ w.heap.size + 1 by omega) _).setCell (p := ⟨w.heap.size + 1, 1, none⟩) (show w.heap.size ≤ w.heap.size + 1 by omega) _, (HS3.out.1.below HB4.out (Nat.le_refl _)).keeps hk (fun j e e' => ?_), HS4.out.1.keeps hk (fun j e e' => ?_), fun j e => ?_, fun j e => ?_⟩
  · have := HS3.out.2 j e; omega
  · have := HS4.out.2 j e; omega
  · have := HS3.out.2 j e; omega
  · have := HS4.out.2 j e; omega
theorem box_after {W w' : World} {v : Value} (h : Below (W.alloc (Obj.cells #[v] 90)).heap.size (W.alloc (Obj.cells #[v] 90)) w') : Box1 w' W.heap.size v :=
  (show Box1 (W.alloc (Obj.cells #[v] 90)) W.heap.size v from heap_alloc_new W _).below h
def St1 (w W : World) (vr vd : Value) (p : Nat) (v : Value) (rs : List Sp) : Prop := Below w.heap.size w W ∧ BoxB W w.heap.size vr vd ∧ Box1 W p v ∧ w.heap.size < p ∧ (∀ j, v.ownBlock = some j → w.heap.size ≤ j) ∧ ∃ G, U64.SV W v G ∧ Ground G rs
theorem heap_alloc_newN {w : World} {n : Nat} (h : w.heap.size = n) (o : Obj) : (w.alloc o).heap[n]? = some o := by
  subst h; exact heap_alloc_new w o
theorem mac_new {W : World} {m B : Nat} {vr vd vg : Value} {rs ds : List Sp} (hbox : W.heap[m]? = some (.cells #[.int .i64 0, .int .i64 0, .int .i64 0, vr, vd, vg, .map (some B)] 101 (0, 0))) (hr : U64.SV W vr rs) (hd : U64.SV W vd ds) (hg : ∃ G, U64.SV W vg G ∧ Ground G (rs ++ ds)) (hl : rs.length + ds.length ≤ 64) (hH : Held W B (fun _ => none) (fun _ => 0)) (hne : m ≠ B)
    (h1 : ∀ j, vr.ownBlock = some j → j ≠ B ∧ j ≠ m) (h2 : ∀ j, vd.ownBlock = some j → j ≠ B ∧ j ≠ m) (h3 : ∀ j, vg.ownBlock = some j → j ≠ B ∧ j ≠ m) : Mac W m B (vr, vd, vg) (fun _ => none) (fun _ => 0) rs ds 0 0 0 := by
  obtain ⟨G, k1, k2, k3, k4, k5⟩ := hg
  have hf : ∀ j, j ≠ B → ¬ Foot B (fun _ => none) j := fun j hj hf => hf.elim hj (fun ⟨_, h⟩ => by cases h)
  refine ⟨G, hbox, hr, hd, k1, k2, k3, k4, by simp at k5; omega, hH, hf m hne, fun v hv j e => ?_⟩
  rcases hv with rfl | rfl | rfl
  · exact ⟨hf j (h1 j e).1, (h1 j e).2⟩
  · exact ⟨hf j (h2 j e).1, (h2 j e).2⟩
  · exact ⟨hf j (h3 j e).1, (h3 j e).2⟩
/-- may the machine be made, and why not? -/
def newW (rs ds : List Sp) : Int := if stakeW 18446744073709551615 [] rs = 0 then stakeW 1048576 rs ds else stakeW 18446744073709551615 [] rs
set_option maxRecDepth 100000 in
set_option maxHeartbeats 8000000 in
theorem new_ok {w : World} {vr vd : Value} {rs ds : List Sp} (hr : U64.SV w vr rs) (hd : U64.SV w vd ds) (hl : rs.length ≤ 8) (hl2 : ds.length ≤ 32) (fr : Fits 18446744073709551615 rs) (fd : Fits 18446744073709551615 ds) (s1 : stakeW 18446744073709551615 [] rs = 0) (s2 : stakeW 1048576 rs ds = 0) (hs : ∀ G, Ground G rs → tot G ≤ 67108864) :
    Calls Tryz.prog 16 #[.agg #[vr, vd]] w fun e w' => ∃ m B V, e = .returned (.tuple #[.pointer (some ⟨m, 0, none⟩), .int .i64 0]) ∧ Below w.heap.size w w' ∧ Mac w' m B V (fun _ => none) (fun _ => 0) rs ds 0 0 0 ∧ ∀ j, Mine m B V (fun _ => none) j → w.heap.size ≤ j := by
  have HR : Hid (U64.SV w vr rs) := hr
  have HD : Hid (U64.SV w vd ds) := hd
  obtain ⟨ar, cr, rfl, hcr, hmr, _, _, _⟩ := hr
  obtain ⟨ad, cd, rfl, hcd, hmd, _, _, _⟩ := hd
  have HS1 : Hid (stakeW 18446744073709551615 [] rs = 0) := s1
  have HS2 : Hid (stakeW 1048576 rs ds = 0) := s2
  have HSz : Hid (∀ G, Ground G rs → tot G ≤ 67108864) := hs
  have HOf : Hid (∀ W, Calls Tryz.prog 40 #[.slice none 0 0] W fun e w' => ∃ a n c, e = .returned (.agg #[.slice a n c]) ∧ Hid (Below W.heap.size W w') ∧ Hid (U64.SV w' (.slice a n c) [] ∧ ∀ j, (Value.slice a n c).ownBlock = some j → W.heap.size ≤ j)) := fun W => by
    refine (U64.of_any (U64.SV.nil W) (fun y hy => by cases hy) (by simp)).mono ?_
    rintro e w' ⟨v', ts, rfl, ho, ht, hb⟩
    obtain ⟨a, c, e, _⟩ := ho.sv
    have h0 : ts = [] := List.eq_nil_of_length_eq_zero (Nat.le_zero.1 ht.2.2)
    subst h0
    subst e
    exact ⟨a, _, c, rfl, hb, ho.sv, fun j e => (World.ownsRow.lt ho j e).1⟩
  have HSt1 : Hid (∀ W a0 n0 c0, Below w.heap.size w W → U64.SV W (.slice a0 n0 c0) [] → Calls Tryz.prog 39 #[.agg #[.slice a0 n0 c0], .slice ar rs.length cr, .int .u64 18446744073709551615] W fun e w' => ∃ a n c, e = .returned (.tuple #[.agg #[.slice a n c], .int .i64 0]) ∧ Hid (Below W.heap.size W w') ∧ Hid ((∃ G, U64.SV w' (.slice a n c) G ∧ Ground G rs) ∧ ∀ j, (Value.slice a n c).ownBlock = some j → ((Value.slice a0 n0 c0).ownBlock = some j ∧ j < W.heap.size) ∨ W.heap.size ≤ j)) := fun W a n c hW hS => by
    refine (stake_any hS ground_nil (by simp; omega) (HR.out.below hW (Nat.le_refl _)) fr (by omega)).mono ?_
    rintro e w' ⟨hb, a, n, c, rfl, h⟩
    obtain ⟨⟨G', h1, h2⟩, h3⟩ := h s1
    exact ⟨a, n, c, by rw [s1], hb, ⟨G', h1, by rw [List.nil_append] at h2; exact h2⟩, h3⟩
  have HSt2 : Hid (∀ W a0 n0 c0, Below w.heap.size w W → (∃ G, U64.SV W (.slice a0 n0 c0) G ∧ Ground G rs) → Calls Tryz.prog 39 #[.agg #[.slice a0 n0 c0], .slice ad ds.length cd, .int .u64 1048576] W fun e w' => ∃ a n c, e = .returned (.tuple #[.agg #[.slice a n c], .int .i64 0]) ∧ Hid (Below W.heap.size W w') ∧ Hid ((∃ G, U64.SV w' (.slice a n c) G ∧ Ground G (rs ++ ds)) ∧ ∀ j, (Value.slice a n c).ownBlock = some j → ((Value.slice a0 n0 c0).ownBlock = some j ∧ j < W.heap.size) ∨ W.heap.size ≤ j)) := fun W a n c hW ⟨G, hS, hG⟩ => by
    refine (stake_any hS hG (by omega) (HD.out.below hW (Nat.le_refl _)) fd (by omega)).mono ?_
    rintro e w' ⟨hb, a, n, c, rfl, h⟩
    obtain ⟨⟨G', h1, h2⟩, h3⟩ := h s2
    exact ⟨a, n, c, by rw [s2], hb, ⟨G', h1, h2⟩, h3⟩
  have e1 : decide (8 < (rs.length : Int)) = false := decide_eq_false (by omega)
  have e2 : decide (32 < (ds.length : Int)) = false := decide_eq_false (by omega)
  unfold maxLen at hmr hmd
  clear fr fd s1 s2 hs
  go_enter Tryz.func16, Tryz.ntmps16
  go_wp2_with fail
  rename_i K hK
  obtain ⟨W1, hW1⟩ : ∃ W1, w.alloc (Obj.cells #[.slice ar rs.length cr, .slice ad ds.length cd] 53) = W1 := ⟨_, rfl⟩
  have HB1 : Hid (Below w.heap.size w W1) := hW1 ▸ (Below.refl _ _).alloc (Nat.le_refl _) _
  have HX1 : Hid (BoxB W1 w.heap.size (.slice ar rs.length cr) (.slice ad ds.length cd)) := hW1 ▸ heap_alloc_new w _
  rw [hW1]
  clear hW1
  obtain ⟨x0, x1, _, _⟩ := HX1.out.cells
  have key : ∀ (p : Nat) (a : Option Addr) (n c : Nat) (a4 : Option Addr) (n4 c4 : Nat) (W : World), St1 w W (.slice ar rs.length cr) (.slice ad ds.length cd) p (.slice a4 n4 c4) rs → K { tmps := #[.agg #[.slice ar rs.length cr, .slice ad ds.length cd], .pointer (some ⟨w.heap.size, 0, none⟩), .pointer none, .int .i64 0, .pointer (some ⟨p, 0, none⟩), .int .i64 0, undef, undef, undef, .pointer (some ⟨w.heap.size, 0, none⟩), .slice ar rs.length cr, .int .i64 (rs.length : Int), .bool false, .bool false, .pointer (some ⟨w.heap.size, 1, none⟩), .slice ad ds.length cd, .int .i64 (ds.length : Int), .bool false, .bool false, .tuple #[.agg #[.slice a4 n4 c4], .int .i64 0], .agg #[.slice a n c], .pointer (some ⟨w.heap.size, 0, none⟩), .slice ar rs.length cr, .tuple #[.agg #[.slice a4 n4 c4], .int .i64 0], .agg #[.slice a4 n4 c4], .int .i64 0, undef, undef, undef, undef, undef, undef, undef, undef, undef, undef, undef, undef, undef, undef, undef, undef, undef, undef, undef, undef, undef, undef, undef, undef, undef, undef], defers := [] } W := by
    intro p a n c a4 n4 c4 W hSt
    refine hK _ _ ?_
    have HSt : Hid (St1 w W (.slice ar rs.length cr) (.slice ad ds.length cd) p (.slice a4 n4 c4) rs) := hSt
    obtain ⟨hB, hX, hP, hlt, hnew, hG⟩ := hSt
    have HNew : Hid (∀ j, (Value.slice a4 n4 c4).ownBlock = some j → w.heap.size ≤ j) := hnew
    obtain ⟨x0, x1, _, _⟩ := hX.cells
    have y0 := hP.cell
    have HB : Hid (Below w.heap.size w W) := hB
    have HX : Hid (BoxB W w.heap.size (.slice ar rs.length cr) (.slice ad ds.length cd)) := hX
    have HP : Hid (Box1 W p (.slice a4 n4 c4)) := hP
    have HG : Hid (∃ G, U64.SV W (.slice a4 n4 c4) G ∧ Ground G rs) := hG
    have z0 := fun X => U64.cell_alloc' X y0
    have z1 := fun X => U64.cell_alloc' X x0
    have z2 := fun X => U64.cell_alloc' X x1
    clear HSt hB hX hP hG hK hnew
    go_wp2_with fail
    refine (HSt2.out W _ _ _ HB.out HG.out).mono ?_
    rintro e w5 ⟨a5, n5, c5, rfl, HB5, HS5⟩
    have HX5 : Hid (BoxB w5 w.heap.size (.slice ar rs.length cr) (.slice ad ds.length cd)) := HX.out.below HB5.out
    have HP5 : Hid (Box1 w5 p (.slice a4 n4 c4)) := HP.out.below HB5.out
    obtain ⟨x0, x1, _, _⟩ := HX5.out.cells
    have y0 := HP5.out.cell
    have z0 := fun X => U64.cell_alloc' X y0
    have z1 := fun X => U64.cell_alloc' X x0
    have z2 := fun X => U64.cell_alloc' X x1
    obtain ⟨G, hGS, hGG⟩ := HG.out
    have htot : sizeB G = (tot G, true) := if_pos (by have := HSz.out G hGG; omega)
    have htl := HSz.out G hGG
    have HSize : Hid (∀ X, Calls Tryz.prog 41 #[.agg #[.slice a4 n4 c4]] (w5.alloc X) fun e w' => e = .returned (.tuple #[.int .u64 (tot G), .bool true]) ∧ Below (w5.alloc X).heap.size (w5.alloc X) w') := fun X => by
      have := U64.size_any ((hGS.below HB5.out (Nat.le_refl _)).alloc X) hGG.1
      rw [htot] at this
      exact this
    clear htot hGS hGG
    generalize tot G = tg at htl HSize
    go_wp2_with fail
    refine (HSize.out _).mono ?_
    rintro e w6 ⟨rfl, hb6⟩
    have HB6 : Hid (Below w5.heap.size w5 w6) := ((Below.refl _ _).alloc (Nat.le_refl _) _).trans (hb6.mono (by simp))
    have HQ6 : Hid (Box1 w6 w5.heap.size (.slice a5 n5 c5)) := box_after hb6
    have HX6 : Hid (BoxB w6 w.heap.size (.slice ar rs.length cr) (.slice ad ds.length cd)) := HX5.out.below HB6.out
    obtain ⟨x0, x1, _, _⟩ := HX6.out.cells
    have y0 := HQ6.out.cell
    have htd : decide (67108864 < tg) = false := decide_eq_false (by omega)
    clear hb6 HSize
    clear z0 z1 z2
    have hmm := @run_makeMap Tryz.prog
    have HBw : Hid (Below w.heap.size w w6) := (HB.out.trans (HB5.out.mono HB.out.size)).trans (HB6.out.mono (by have := HB.out.size; have := HB5.out.size; omega))
    have HTw : Hid (∀ W, Below w6.heap.size w6 W → Calls Tryz.prog 42 #[.agg #[.slice ar rs.length cr, .slice ad ds.length cd]] W fun e w' => ∃ a n c a2 n2 c2, e = .returned (.agg #[.slice a n c, .slice a2 n2 c2]) ∧ (w'.cell? ⟨w.heap.size, 0, none⟩ = some (.slice ar rs.length cr) ∧ w'.cell? ⟨w.heap.size, 1, none⟩ = some (.slice ad ds.length cd) ∧ w'.cell? ⟨w5.heap.size, 0, none⟩ = some (.slice a5 n5 c5)) ∧ Hid (Below W.heap.size W w') ∧ Hid (Below w6.heap.size w6 w') ∧ Hid (U64.SV w' (.slice a n c) rs ∧ U64.SV w' (.slice a2 n2 c2) ds ∧ (∀ j, (Value.slice a n c).ownBlock = some j → W.heap.size ≤ j) ∧ ∀ j, (Value.slice a2 n2 c2).ownBlock = some j → W.heap.size ≤ j)) := fun W hW => by
      have hw := HBw.out.trans (hW.mono HBw.out.size)
      refine (twin_any (HR.out.below hw (Nat.le_refl _)) (HD.out.below hw (Nat.le_refl _)) (by omega) (by omega)).mono ?_
      rintro e w' ⟨a, n, c, a2, n2, c2, rfl, hb, h⟩
      have hb' := hW.trans (hb.mono hW.size)
      obtain ⟨k0, k1, _⟩ := (HX6.out.below hb').cells
      exact ⟨a, n, c, a2, n2, c2, rfl, ⟨k0, k1, (HQ6.out.below hb').cell⟩, hb, hb', h⟩
    have HBd : Hid (Below w6.heap.size w6 w6.drew) := (Below.refl _ _).drew
    clear HOf HSt1 HSt2
    go_wp2_with fail
    go_region_held3 (fun w' => w'.cell? ⟨w.heap.size, 0, none⟩ = some (.slice ar rs.length cr) ∧ w'.cell? ⟨w.heap.size, 1, none⟩ = some (.slice ad ds.length cd) ∧ w'.cell? ⟨w5.heap.size, 0, none⟩ = some (.slice a5 n5 c5)) (go_keep) (first | (go_at_call 42; first | (refine (HTw.out _ HBd.out).mono ?_; rintro e w7 ⟨a7, n7, c7, a8, n8, c8, rfl, ⟨k0, k1, k2⟩, HB7, HC7, HS7⟩) | (refine (HTw.out _ (HBd.out.alloc HBd.out.size _)).mono ?_; rintro e w7 ⟨a7, n7, c7, a8, n8, c8, rfl, ⟨k0, k1, k2⟩, HB7, HC7, HS7⟩)))
    · go_wp2_with fail
      go_ret2
      have hz6 := HC7.out.size
      have hz5 := HB6.out.size
      have hzB := HB5.out.size
      have hzw := HB.out.size
      obtain ⟨⟨G', g1, g2⟩, g3⟩ := HS5.out
      obtain ⟨s1, s2, s3, s4⟩ := HS7.out
      have hb8 : Below w7.heap.size w7 ((w7.alloc (Obj.map #[] 0)).alloc (Obj.cells #[.int .i64 0, .int .i64 0, .int .i64 0, .slice a7 n7 c7, .slice a8 n8 c8, .slice a5 n5 c5, .map (some w7.heap.size)] 101)) := ((Below.refl _ _).alloc (Nat.le_refl _) _).alloc (by simp) _
      have hb9 : Below w5.heap.size w5 ((w7.alloc (Obj.map #[] 0)).alloc (Obj.cells #[.int .i64 0, .int .i64 0, .int .i64 0, .slice a7 n7 c7, .slice a8 n8 c8, .slice a5 n5 c5, .map (some w7.heap.size)] 101)) := (HB6.out.trans (HC7.out.mono hz5)).trans (hb8.mono (by omega))
      have q1 := fun j e => sv_lt s1 j e
      have q2 := fun j e => sv_lt s2 j e
      have q3 := fun j e => sv_lt g1 j e
      refine ⟨w7.heap.size + 1, w7.heap.size, (.slice a7 n7 c7, .slice a8 n8 c8, .slice a5 n5 c5), rfl, (HBw.out.trans (HC7.out.mono HBw.out.size)).trans (hb8.mono (by omega)), mac_new (heap_alloc_newN (by simp) _) (s1.below hb8 (Nat.le_refl _)) (s2.below hb8 (Nat.le_refl _)) ⟨G', g1.below hb9 (Nat.le_refl _), g2⟩ (by omega) ((Held.made w7).below ((Below.refl _ _).alloc (Nat.le_refl _) _)) (by omega) (fun j e => ?_) (fun j e => ?_) (fun j e => ?_), fun j hj => ?_⟩
      · have := q1 j e; omega
      · have := q2 j e; omega
      · have := q3 j e; omega
      · rcases hj with rfl | (rfl | ⟨k, hk⟩) | ⟨v, rfl | rfl | rfl, e⟩
        · omega
        · omega
        · cases hk
        · have := s3 j e; simp at this; omega
        · have := s4 j e; simp at this; omega
        · rcases g3 j e with ⟨h1, _⟩ | h1
          · exact HNew.out j h1
          · omega
    · go_wp2_with fail
      go_ret2
      have hz6 := HC7.out.size
      have hz7 := HB7.out.size
      have hz5 := HB6.out.size
      have hzB := HB5.out.size
      have hzw := HB.out.size
      obtain ⟨⟨G', g1, g2⟩, g3⟩ := HS5.out
      obtain ⟨s1, s2, s3, s4⟩ := HS7.out
      have hb8 : Below w7.heap.size w7 (w7.alloc (Obj.cells #[.int .i64 0, .int .i64 0, .int .i64 0, .slice a7 n7 c7, .slice a8 n8 c8, .slice a5 n5 c5, .map (some w6.heap.size)] 101)) := (Below.refl _ _).alloc (Nat.le_refl _) _
      have hb9 : Below w5.heap.size w5 (w7.alloc (Obj.cells #[.int .i64 0, .int .i64 0, .int .i64 0, .slice a7 n7 c7, .slice a8 n8 c8, .slice a5 n5 c5, .map (some w6.heap.size)] 101)) := (HB6.out.trans (HC7.out.mono hz5)).trans (hb8.mono (by omega))
      have q1 := fun j e => sv_lt s1 j e
      have q2 := fun j e => sv_lt s2 j e
      have q3 := fun j e => sv_lt g1 j e
      have hz7' : w6.heap.size + 1 ≤ w7.heap.size := by simp at hz7; exact hz7
      refine ⟨w7.heap.size, w6.heap.size, (.slice a7 n7 c7, .slice a8 n8 c8, .slice a5 n5 c5), rfl, (HBw.out.trans (HC7.out.mono HBw.out.size)).trans (hb8.mono (by omega)), mac_new (heap_alloc_new w7 _) (s1.below hb8 (Nat.le_refl _)) (s2.below hb8 (Nat.le_refl _)) ⟨G', g1.below hb9 (Nat.le_refl _), g2⟩ (by omega) (((Held.made w6.drew).below HB7.out).below hb8) (by omega) (fun j e => ?_) (fun j e => ?_) (fun j e => ?_), fun j hj => ?_⟩
      · have := q1 j e; have := s3 j e; simp at this; omega
      · have := q2 j e; have := s4 j e; simp at this; omega
      · have := q3 j e; omega
      · rcases hj with rfl | (rfl | ⟨k, hk⟩) | ⟨v, rfl | rfl | rfl, e⟩
        · omega
        · omega
        · cases hk
        · have := s3 j e; simp at this; omega
        · have := s4 j e; simp at this; omega
        · rcases g3 j e with ⟨h1, _⟩ | h1
          · exact HNew.out j h1
          · omega
  clear hK
  have HKey : Hid (∀ (p : Nat) (a : Option Addr) (n c : Nat) (a4 : Option Addr) (n4 c4 : Nat) (W : World), St1 w W (.slice ar rs.length cr) (.slice ad ds.length cd) p (.slice a4 n4 c4) rs → K { tmps := #[.agg #[.slice ar rs.length cr, .slice ad ds.length cd], .pointer (some ⟨w.heap.size, 0, none⟩), .pointer none, .int .i64 0, .pointer (some ⟨p, 0, none⟩), .int .i64 0, undef, undef, undef, .pointer (some ⟨w.heap.size, 0, none⟩), .slice ar rs.length cr, .int .i64 (rs.length : Int), .bool false, .bool false, .pointer (some ⟨w.heap.size, 1, none⟩), .slice ad ds.length cd, .int .i64 (ds.length : Int), .bool false, .bool false, .tuple #[.agg #[.slice a4 n4 c4], .int .i64 0], .agg #[.slice a n c], .pointer (some ⟨w.heap.size, 0, none⟩), .slice ar rs.length cr, .tuple #[.agg #[.slice a4 n4 c4], .int .i64 0], .agg #[.slice a4 n4 c4], .int .i64 0, undef, undef, undef, undef, undef, undef, undef, undef, undef, undef, undef, undef, undef, undef, undef, undef, undef, undef, undef, undef, undef, undef, undef, undef, undef, undef], defers := [] } W) := key
  clear key
  have HC1 : Hid (∀ W, Below W1.heap.size W1 W → Calls Tryz.prog 40 #[.slice none 0 0] W fun e w' => ∃ a n c, e = .returned (.agg #[.slice a n c]) ∧ (w'.cell? ⟨w.heap.size, 0, none⟩ = some (.slice ar rs.length cr) ∧ w'.cell? ⟨w.heap.size, 1, none⟩ = some (.slice ad ds.length cd)) ∧ Hid (Below W1.heap.size W1 w') ∧ Hid (U64.SV w' (.slice a n c) [] ∧ ∀ j, (Value.slice a n c).ownBlock = some j → W.heap.size ≤ j) ∧ Hid (Below W.heap.size W w')) := fun W hW => by
    refine (HOf.out _).mono ?_
    rintro e w' ⟨a, n, c, rfl, hb, h⟩
    have hb' : Below W1.heap.size W1 w' := hW.trans (hb.out.mono hW.size)
    obtain ⟨y0, y1, _⟩ := (HX1.out.below hb').cells
    exact ⟨a, n, c, rfl, ⟨y0, y1⟩, hb', h, hb⟩
  have HC2 : Hid (∀ W a0 n0 c0, Below W1.heap.size W1 W → U64.SV W (.slice a0 n0 c0) [] → Calls Tryz.prog 39 #[.agg #[.slice a0 n0 c0], .slice ar rs.length cr, .int .u64 18446744073709551615] W fun e w' => ∃ a n c, e = .returned (.tuple #[.agg #[.slice a n c], .int .i64 0]) ∧ (w'.cell? ⟨w.heap.size, 0, none⟩ = some (.slice ar rs.length cr) ∧ w'.cell? ⟨w.heap.size, 1, none⟩ = some (.slice ad ds.length cd)) ∧ Hid (Below W1.heap.size W1 w') ∧ Hid ((∃ G, U64.SV w' (.slice a n c) G ∧ Ground G rs) ∧ ∀ j, (Value.slice a n c).ownBlock = some j → ((Value.slice a0 n0 c0).ownBlock = some j ∧ j < W.heap.size) ∨ W.heap.size ≤ j) ∧ Hid (Below W.heap.size W w')) := fun w3 a n c hb3 h3 => by
    refine (HSt1.out w3 a n c (HB1.out.trans (hb3.mono HB1.out.size)) h3).mono ?_
    rintro e w' ⟨a, n, c, rfl, hb, h⟩
    have hb' : Below W1.heap.size W1 w' := hb3.trans (hb.out.mono hb3.size)
    obtain ⟨y0, y1, _⟩ := (HX1.out.below hb').cells
    exact ⟨a, n, c, rfl, ⟨y0, y1⟩, hb', h, hb⟩
  have HBd : Hid (Below W1.heap.size W1 W1.drew) := (Below.refl _ _).drew
  go_region_held3 (fun w' => w'.cell? ⟨w.heap.size, 0, none⟩ = some (.slice ar rs.length cr) ∧ w'.cell? ⟨w.heap.size, 1, none⟩ = some (.slice ad ds.length cd)) (first | exact ⟨(U64.set_other (by have := HX1.out.lt; have := HB3.out.size; omega)).trans (by assumption), (U64.set_other (by have := HX1.out.lt; have := HB3.out.size; omega)).trans (by assumption)⟩ | go_keep) (first | (go_at_call 40; first | (refine (HC1.out _ HBd.out).mono ?_; rintro e w3 ⟨a, n, c, rfl, ⟨d0, d1⟩, HB3, HS3, HL3⟩) | (refine (HC1.out _ (HBd.out.alloc HBd.out.size _)).mono ?_; rintro e w3 ⟨a, n, c, rfl, ⟨d0, d1⟩, HB3, HS3, HL3⟩; have HBx : Hid (Box1 w3 W1.heap.size (.slice none 0 0)) := box_after (W := W1.drew) HL3.out)) | (go_at_call 39; first | (refine (HC2.out _ _ _ _ HB3.out HS3.out.1).mono ?_; rintro e w4 ⟨a4, n4, c4, rfl, ⟨f0, f1⟩, HB4, HS4, HL4⟩; try (have hBy := HBx.out.below HL4.out; have k0 := hBy.cell; have k1 := hBy.thawed; clear hBy)) | (refine (HC2.out _ _ _ _ (HB3.out.alloc HB3.out.size _) (HS3.out.1.alloc _)).mono ?_; rintro e w4 ⟨a4, n4, c4, rfl, ⟨f0, f1⟩, HB4, HS4, HL4⟩; have HBy : Hid (Box1 w4 w3.heap.size (.slice none 0 0)) := box_after HL4.out; have k0 := HBy.out.cell; have k1 := HBy.out.thawed)))
  · exact HKey.out _ _ _ _ _ _ _ _ ⟨(HB1.out.trans (HB4.out.mono HB1.out.size)).alloc (by have := HB1.out.size; have := HB4.out.size; omega) _, HX1.out.below (HB4.out.alloc HB4.out.size _), heap_alloc_new w4 _, by have := HX1.out.lt; have := HB4.out.size; omega, fun j e => by
      have h0 := HX1.out.lt
      have h1 := HB3.out.size
      rcases HS4.out.2 j e with ⟨h5, h6⟩ | h5
      · have := HS3.out.2 j h5; simp at this; omega
      · omega, HS4.out.1.imp fun G h => ⟨h.1.alloc _, h.2⟩⟩
  · have hlt := HX1.out.lt
    have h3 := HB3.out.size
    refine HKey.out _ _ _ _ _ _ _ _ ⟨(HB1.out.trans (HB4.out.mono HB1.out.size)).setCell (p := ⟨w3.heap.size, 0, none⟩) (show w.heap.size ≤ w3.heap.size by omega) _, (HX1.out.below HB4.out).keeps (Keeps.setCell _ _ _ _) (by omega), HBy.out.set _, by omega, fun j e => by
      rcases HS4.out.2 j e with ⟨h5, h6⟩ | h5
      · have := HS3.out.2 j h5; simp at this; omega
      · simp at h5; omega, HS4.out.1.imp fun G h => ⟨h.1.keeps (Keeps.setCell _ _ _ _) (fun j e e' => ?_), h.2⟩⟩
    rcases HS4.out.2 j e with ⟨h5, h6⟩ | h5
    · have := sv_lt HS3.out.1 j h5; omega
    · simp at h5; omega
  · have hlt := HX1.out.lt
    have h3 := HB3.out.size
    have h4 := HL3.out.size
    refine HKey.out _ _ _ _ _ _ _ _ ⟨(HB1.out.trans (HB4.out.mono HB1.out.size)).setCell (p := ⟨W1.heap.size, 0, none⟩) (show w.heap.size ≤ W1.heap.size by omega) _, (HX1.out.below HB4.out).keeps (Keeps.setCell _ _ _ _) (by omega), (HBx.out.below HL4.out).set _, by omega, fun j e => by
      rcases HS4.out.2 j e with ⟨h5, h6⟩ | h5
      · have := HS3.out.2 j h5; simp at this; omega
      · omega, HS4.out.1.imp fun G h => ⟨h.1.keeps (Keeps.setCell _ _ _ _) (fun j e e' => ?_), h.2⟩⟩
    have h7 := HBx.out.lt
    rcases HS4.out.2 j e with ⟨h5, h6⟩ | h5
    · have := HS3.out.2 j h5; simp at this; omega
    · omega
end Go.Proofs.YtlplbbnicfeoaaaGreat
