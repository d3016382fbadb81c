import Derived.Test.YtgjamnhepbblhaaPk04
import Derived.Handy
/- Pages: the list of tables in memory; set. Own work. -/
namespace Go.Proofs.Ytgjamnhepbblhaa
open Go.RowKit Wk
set_option linter.unusedVariables false
/-- the cells of a list of tables -/
def cellsG (n : Nat) (M : Nat → Nat) : Array Value := ((List.range (n * 512)).map fun i => Value.int .u64 (M i : Int)).toArray
theorem cellsG_size (n : Nat) (M : Nat → Nat) : (cellsG n M).size = n * 512 := by simp [cellsG]
theorem cellsG_get (n : Nat) (M : Nat → Nat) {i : Nat} (h : i < n * 512) : (cellsG n M)[i]? = some (.int .u64 (M i : Int)) := by simp [cellsG, h]
def putM (M : Nat → Nat) (i x : Nat) : Nat → Nat := fun j => if j = i then x else M j
theorem cellsG_set (n : Nat) (M : Nat → Nat) {p : Nat} (h : p < n * 512) (x : Nat) : (cellsG n M).setIfInBounds p (.int .u64 (x : Int)) = cellsG n (putM M p x) := by
  apply Array.ext_getElem?
  intro i
  rw [Array.getElem?_setIfInBounds, cellsG_size]
  by_cases e : p = i
  · subst e
    rw [if_pos rfl, if_pos h, cellsG_get _ _ h]
    simp [putM]
  · rw [if_neg e]
    by_cases hi : i < n * 512
    · rw [cellsG_get _ _ hi, cellsG_get _ _ hi]
      simp [putM, show i ≠ p from fun a => e a.symm]
    · rw [Array.getElem?_eq_none (by rw [cellsG_size]; omega), Array.getElem?_eq_none (by rw [cellsG_size]; omega)]
/-- a list of tables in its block -/
def GAt (w : World) (G n : Nat) (M : Nat → Nat) : Prop := w.heap[G]? = some (.cells (cellsG n M) 40 (0, 0))
theorem GAt.lt {w : World} {G n : Nat} {M : Nat → Nat} (h : GAt w G n M) : G < w.heap.size := (Array.getElem?_eq_some_iff.1 h).1
theorem GAt.cell {w : World} {G n : Nat} {M : Nat → Nat} (h : GAt w G n M) {p : Nat} (hp : p < n * 512) : w.cell? ⟨G, p, none⟩ = some (.int .u64 (M p : Int)) := by
  rw [cell_of_row _ _ p _ _ _ h, cellsG_get n M hp]
theorem GAt.free {w : World} {G n : Nat} {M : Nat → Nat} (h : GAt w G n M) (p : Nat) : w.frozen? ⟨G, p, none⟩ = false := by
  have h' : w.heap[G]? = _ := h
  simp [World.frozen?, h']
theorem GAt.keeps {S : Nat → Prop} {w w' : World} {G n : Nat} {M : Nat → Nat} (h : GAt w G n M) (k : Keeps S w w') (hn : ¬ S G) : GAt w' G n M := (k.block G h.lt hn).trans h
theorem GAt.below {w w' : World} {G n : Nat} {M : Nat → Nat} (h : GAt w G n M) (hb : Below w.heap.size w w') : GAt w' G n M := (hb.block G h.lt).trans h
theorem GAt.set {w : World} {G n : Nat} {M : Nat → Nat} (h : GAt w G n M) {p : Nat} (hp : p < n * 512) (x : Nat) : GAt (w.setCell ⟨G, p, none⟩ (.int .u64 (x : Int))) G n (putM M p x) := by
  have h' : w.heap[G]? = _ := h
  unfold GAt
  rw [← cellsG_set n M hp x]
  simp [World.setCell, Array.getElem?_modify, h']
theorem GAt.of_made {w : World} {base g n : Nat} (h : w.ownsRow base 40 512 (.slice (some ⟨g, 0, none⟩) n n) n (madeCells (tabV fun _ => 0) (n * 512)).toList) : GAt w g n (fun _ => 0) := by
  rcases h.2 with ⟨hc, _⟩ | ⟨g', cap, cur, hv, _, hg, _, _, hs, ht⟩
  · cases hc
  · cases hv
    unfold GAt
    rw [hg]
    have e : cur = cellsG n (fun _ => 0) := by
      apply Array.ext_getElem?
      intro i
      rw [List.take_of_length_le (by simp [hs])] at ht
      rw [← Array.getElem?_toList, ht]
      by_cases hi : i < n * 512
      · rw [cellsG_get n _ hi, Array.getElem?_toList, Array.getElem?_eq_getElem (by rw [size_madeCells]; exact hi)]
        have hg2 : (madeCells (tabV fun _ => 0) (n * 512))[i]'(by rw [size_madeCells]; exact hi) = (tabV fun _ => 0)[i % (tabV fun _ => 0).size]! := by
          simp only [madeCells, Array.getElem_map, Array.getElem_range]
        rw [hg2, tabV_size, getElem!_def, tabV_get _ (Nat.mod_lt _ (by decide))]
      · rw [List.getElem?_eq_none (by rw [Array.length_toList, size_madeCells]; omega), Array.getElem?_eq_none (by rw [cellsG_size]; omega)]
    rw [e]
theorem cell_past {w : World} {B G i p : Nat} {u v : Value} (h : w.cell? ⟨B, i, none⟩ = some v) (hne : B ≠ G) : (w.setCell ⟨G, p, none⟩ u).cell? ⟨B, i, none⟩ = some v := by
  have e : (w.setCell ⟨G, p, none⟩ u).heap[B]? = w.heap[B]? := Below.heap_setCell _ _ _ _ hne
  unfold World.cell? at h ⊢
  rw [e]
  exact h
theorem cell_pastD {w : World} {B G i p : Nat} {u v : Value} (h : w.cell? ⟨B, i, none⟩ = some v) (hne : B ≠ G) : (w.setCell ⟨G, p, none⟩ u).drew.cell? ⟨B, i, none⟩ = some v := cell_past h hne
set_option maxRecDepth 100000 in
set_option maxHeartbeats 4000000 in
theorem set0 {w : World} {B G n k a : Nat} {o1 o2 r : Value} {M : Nat → Nat} {v : Nat} {x : Wk.Ent} {rw' : Nat} (h : Bb w B (win G (k * 512)) o1 o2 r a) (hG : GAt w G n M) (hk : k < n) (hne : B ≠ G) (hx : x.1 < 18446744073709551616) (hm : makeB x 0 = (rw', 0)) : Calls Try.prog 48 #[.pointer (some ⟨B, 0, none⟩), .int .u64 (v : Int), .int .i64 0, EntV x] w fun e w' => e = .returned (.tuple #[]) ∧ GAt w' G n (putM M (k * 512 + thrF v 0 % 512) rw') ∧ Keeps (fun q => q = G) w w' := by
  have HM : Hid (∀ W, Calls Try.prog 53 #[EntV x, .int .i64 0] W fun e w' => e = .returned (.tuple #[.int .u64 (rw' : Int), .int .i64 0]) ∧ Below W.heap.size W w') := fun W => by
    have h5 := make_any hx 0 W
    rw [hm] at h5
    exact h5
  have HNm : Hid (∀ W, Calls Try.prog 52 #[.int .u64 (v : Int), .int .i64 0] W fun e w' => e = .returned (.int .u64 ((thrF v 0 % 512 : Nat) : Int)) ∧ w' = W) := fun W => number_any v 0 (by omega) W
  obtain ⟨p, hp⟩ : ∃ p, thrF v 0 % 512 = p := ⟨_, rfl⟩
  have hp5 : p < 512 := by rw [← hp]; exact Nat.mod_lt _ (by decide)
  rw [hp] at HNm ⊢
  have hpk : k * 512 + p < n * 512 := by omega
  have HB := Lib.hid h
  have HG := Lib.hid hG
  obtain ⟨F, t1, t2, t3, t4⟩ := x
  unfold EntV at HM ⊢
  simp only at HM ⊢
  have HBl : Hid (Below w.heap.size w (w.alloc (.cells #[.int .u64 (F : Int), .bool t1, .bool t2, .bool t3, .bool t4] 91))) := (Below.refl _ _).alloc (Nat.le_refl _) _
  clear hp h hG hm hx
  go_enter Try.func48, Try.ntmps48
  go_wp2_with fail
  refine (HM.out _).mono ?_
  rintro e w1 ⟨rfl, hb1⟩
  have hb : Below w.heap.size w w1 := HBl.out.trans (hb1.mono HBl.out.size)
  have HB1 := Lib.hid (HB.out.below hb)
  have HG1 := Lib.hid (HG.out.below hb)
  have HBw := Lib.hid hb
  obtain ⟨c0, c1, c2, c3, c4⟩ := HB1.out.cells
  have g1 := HG1.out.cell hpk
  have gf := HG1.out.free (k * 512 + p)
  have jp : (p : Int) < 512 := by omega
  clear hb hb1 HM
  unfold win at c0
  go_wp2_with fail
  go_region_held3 (fun w' => w'.cell? ⟨B, 0, none⟩ = some (.slice (some ⟨G, k * 512, none⟩) 1 1)) (first | (exact cell_pastD c0 hne) | (exact cell_past c0 hne) | go_keep) (first | (go_at_call 52; refine (HNm.out _).mono ?_; rintro e w9 ⟨rfl, hw9⟩; have hw9 := hw9.symm; subst hw9))
  all_goals
    have hk1 : Keeps (fun q => q = G) w (w1.setCell ⟨G, k * 512 + p, none⟩ (.int .u64 (rw' : Int))).drew := ((Keeps.of_below (S := fun q => q = G) HBw.out).trans (Keeps.setCell w1 G (k * 512 + p) (.int .u64 (rw' : Int))) (fun _ _ e => e)).drew
    have hg1 : GAt (w1.setCell ⟨G, k * 512 + p, none⟩ (.int .u64 (rw' : Int))).drew G n (putM M (k * 512 + p) rw') := HG1.out.set hpk rw'
    have HK1 := Lib.hid hk1
    have HG2 := Lib.hid hg1
    clear hk1 hg1
    generalize (w1.setCell ⟨G, k * 512 + p, none⟩ (.int .u64 (rw' : Int))).drew = wz at HK1 HG2 ⊢
    go_wp2_with fail
    go_end0
    exact ⟨rfl, HG2.out, HK1.out⟩
set_option maxRecDepth 100000 in
set_option maxHeartbeats 4000000 in
theorem set1 {w : World} {B G n k a : Nat} {o1 o2 r : Value} {M : Nat → Nat} {v : Nat} {x : Wk.Ent} {rw' : Nat} (h : Bb w B o1 (win G (k * 512)) o2 r a) (hG : GAt w G n M) (hk : k < n) (hne : B ≠ G) (hx : x.1 < 18446744073709551616) (hm : makeB x 1 = (rw', 0)) : Calls Try.prog 48 #[.pointer (some ⟨B, 0, none⟩), .int .u64 (v : Int), .int .i64 1, EntV x] w fun e w' => e = .returned (.tuple #[]) ∧ GAt w' G n (putM M (k * 512 + thrF v 1 % 512) rw') ∧ Keeps (fun q => q = G) w w' := by
  have HM : Hid (∀ W, Calls Try.prog 53 #[EntV x, .int .i64 1] W fun e w' => e = .returned (.tuple #[.int .u64 (rw' : Int), .int .i64 0]) ∧ Below W.heap.size W w') := fun W => by
    have h5 := make_any hx 1 W
    rw [hm] at h5
    exact h5
  have HNm : Hid (∀ W, Calls Try.prog 52 #[.int .u64 (v : Int), .int .i64 1] W fun e w' => e = .returned (.int .u64 ((thrF v 1 % 512 : Nat) : Int)) ∧ w' = W) := fun W => number_any v 1 (by omega) W
  obtain ⟨p, hp⟩ : ∃ p, thrF v 1 % 512 = p := ⟨_, rfl⟩
  have hp5 : p < 512 := by rw [← hp]; exact Nat.mod_lt _ (by decide)
  rw [hp] at HNm ⊢
  have hpk : k * 512 + p < n * 512 := by omega
  have HB := Lib.hid h
  have HG := Lib.hid hG
  obtain ⟨F, t1, t2, t3, t4⟩ := x
  unfold EntV at HM ⊢
  simp only at HM ⊢
  have HBl : Hid (Below w.heap.size w (w.alloc (.cells #[.int .u64 (F : Int), .bool t1, .bool t2, .bool t3, .bool t4] 91))) := (Below.refl _ _).alloc (Nat.le_refl _) _
  clear hp h hG hm hx
  go_enter Try.func48, Try.ntmps48
  go_wp2_with fail
  refine (HM.out _).mono ?_
  rintro e w1 ⟨rfl, hb1⟩
  have hb : Below w.heap.size w w1 := HBl.out.trans (hb1.mono HBl.out.size)
  have HB1 := Lib.hid (HB.out.below hb)
  have HG1 := Lib.hid (HG.out.below hb)
  have HBw := Lib.hid hb
  obtain ⟨c0, c1, c2, c3, c4⟩ := HB1.out.cells
  have g1 := HG1.out.cell hpk
  have gf := HG1.out.free (k * 512 + p)
  have jp : (p : Int) < 512 := by omega
  clear hb hb1 HM
  unfold win at c1
  go_wp2_with fail
  go_region_held3 (fun w' => w'.cell? ⟨B, 1, none⟩ = some (.slice (some ⟨G, k * 512, none⟩) 1 1)) (first | (exact cell_pastD c1 hne) | (exact cell_past c1 hne) | go_keep) (first | (go_at_call 52; refine (HNm.out _).mono ?_; rintro e w9 ⟨rfl, hw9⟩; have hw9 := hw9.symm; subst hw9))
  all_goals
    have hk1 : Keeps (fun q => q = G) w (w1.setCell ⟨G, k * 512 + p, none⟩ (.int .u64 (rw' : Int))).drew := ((Keeps.of_below (S := fun q => q = G) HBw.out).trans (Keeps.setCell w1 G (k * 512 + p) (.int .u64 (rw' : Int))) (fun _ _ e => e)).drew
    have hg1 : GAt (w1.setCell ⟨G, k * 512 + p, none⟩ (.int .u64 (rw' : Int))).drew G n (putM M (k * 512 + p) rw') := HG1.out.set hpk rw'
    have HK1 := Lib.hid hk1
    have HG2 := Lib.hid hg1
    clear hk1 hg1
    generalize (w1.setCell ⟨G, k * 512 + p, none⟩ (.int .u64 (rw' : Int))).drew = wz at HK1 HG2 ⊢
    go_wp2_with fail
    go_end0
    exact ⟨rfl, HG2.out, HK1.out⟩
set_option maxRecDepth 100000 in
set_option maxHeartbeats 4000000 in
theorem set2 {w : World} {B G n k a : Nat} {o1 o2 r : Value} {M : Nat → Nat} {v : Nat} {x : Wk.Ent} {rw' : Nat} (h : Bb w B o1 o2 (win G (k * 512)) r a) (hG : GAt w G n M) (hk : k < n) (hne : B ≠ G) (hx : x.1 < 18446744073709551616) (hm : makeB x 2 = (rw', 0)) : Calls Try.prog 48 #[.pointer (some ⟨B, 0, none⟩), .int .u64 (v : Int), .int .i64 2, EntV x] w fun e w' => e = .returned (.tuple #[]) ∧ GAt w' G n (putM M (k * 512 + thrF v 2 % 512) rw') ∧ Keeps (fun q => q = G) w w' := by
  have HM : Hid (∀ W, Calls Try.prog 53 #[EntV x, .int .i64 2] W fun e w' => e = .returned (.tuple #[.int .u64 (rw' : Int), .int .i64 0]) ∧ Below W.heap.size W w') := fun W => by
    have h5 := make_any hx 2 W
    rw [hm] at h5
    exact h5
  have HNm : Hid (∀ W, Calls Try.prog 52 #[.int .u64 (v : Int), .int .i64 2] W fun e w' => e = .returned (.int .u64 ((thrF v 2 % 512 : Nat) : Int)) ∧ w' = W) := fun W => number_any v 2 (by omega) W
  obtain ⟨p, hp⟩ : ∃ p, thrF v 2 % 512 = p := ⟨_, rfl⟩
  have hp5 : p < 512 := by rw [← hp]; exact Nat.mod_lt _ (by decide)
  rw [hp] at HNm ⊢
  have hpk : k * 512 + p < n * 512 := by omega
  have HB := Lib.hid h
  have HG := Lib.hid hG
  obtain ⟨F, t1, t2, t3, t4⟩ := x
  unfold EntV at HM ⊢
  simp only at HM ⊢
  have HBl : Hid (Below w.heap.size w (w.alloc (.cells #[.int .u64 (F : Int), .bool t1, .bool t2, .bool t3, .bool t4] 91))) := (Below.refl _ _).alloc (Nat.le_refl _) _
  clear hp h hG hm hx
  go_enter Try.func48, Try.ntmps48
  go_wp2_with fail
  refine (HM.out _).mono ?_
  rintro e w1 ⟨rfl, hb1⟩
  have hb : Below w.heap.size w w1 := HBl.out.trans (hb1.mono HBl.out.size)
  have HB1 := Lib.hid (HB.out.below hb)
  have HG1 := Lib.hid (HG.out.below hb)
  have HBw := Lib.hid hb
  obtain ⟨c0, c1, c2, c3, c4⟩ := HB1.out.cells
  have g1 := HG1.out.cell hpk
  have gf := HG1.out.free (k * 512 + p)
  have jp : (p : Int) < 512 := by omega
  clear hb hb1 HM
  unfold win at c2
  go_wp2_with fail
  go_region_held3 (fun w' => w'.cell? ⟨B, 2, none⟩ = some (.slice (some ⟨G, k * 512, none⟩) 1 1)) (first | (exact cell_pastD c2 hne) | (exact cell_past c2 hne) | go_keep) (first | (go_at_call 52; refine (HNm.out _).mono ?_; rintro e w9 ⟨rfl, hw9⟩; have hw9 := hw9.symm; subst hw9))
  all_goals
    have hk1 : Keeps (fun q => q = G) w (w1.setCell ⟨G, k * 512 + p, none⟩ (.int .u64 (rw' : Int))).drew := ((Keeps.of_below (S := fun q => q = G) HBw.out).trans (Keeps.setCell w1 G (k * 512 + p) (.int .u64 (rw' : Int))) (fun _ _ e => e)).drew
    have hg1 : GAt (w1.setCell ⟨G, k * 512 + p, none⟩ (.int .u64 (rw' : Int))).drew G n (putM M (k * 512 + p) rw') := HG1.out.set hpk rw'
    have HK1 := Lib.hid hk1
    have HG2 := Lib.hid hg1
    clear hk1 hg1
    generalize (w1.setCell ⟨G, k * 512 + p, none⟩ (.int .u64 (rw' : Int))).drew = wz at HK1 HG2 ⊢
    go_wp2_with fail
    go_end0
    exact ⟨rfl, HG2.out, HK1.out⟩
end Go.Proofs.Ytgjamnhepbblhaa
/- Pages: down, row, begun at the page of PagesNames. Own work. -/
namespace Go.Proofs.Ytgjamnhepbblhaa
open Go.RowKit Wk
set_option linter.unusedVariables false
theorem Bb.drew {w : World} {B : Nat} {o0 o1 o2 r : Value} {a : Nat} (h : Bb w B o0 o1 o2 r a) : Bb w.drew B o0 o1 o2 r a := h
theorem GAt.drew {w : World} {G n : Nat} {M : Nat → Nat} (h : GAt w G n M) : GAt w.drew G n M := h
/-- the list of the tables of PagesNames' page, ahead of its leaf -/
def mA : Nat → Nat := putM (fun _ => 0) 0 69633
def mB : Nat → Nat := putM mA 512 73729
def mC : Nat → Nat := putM mB 1027 32771
set_option maxRecDepth 100000 in
set_option maxHeartbeats 4000000 in
theorem down_C {w : World} {B G : Nat} {o1 o2 : Value} (h : Bb w B (win G 0) o1 o2 (.slice (some ⟨G, 512, none⟩) 2 2) 69632) (hG : GAt w G 3 (fun _ => 0)) (hne : B ≠ G) : Calls Try.prog 47 #[.pointer (some ⟨B, 0, none⟩), .int .u64 12288, .int .i64 2] w fun e w' => e = .returned (.tuple #[]) ∧ (∃ r, Bb w' B (win G 0) (win G 512) (win G 1024) r 77824) ∧ GAt w' G 3 mB ∧ Keeps (fun q => q = B ∨ q = G) w w' := by
  have HN0 : Hid (∀ W, Calls Try.prog 52 #[.int .u64 12288, .int .i64 0] W fun e w' => e = .returned (.int .u64 0) ∧ w' = W) := fun W => number_any 12288 0 (by omega) W
  have HN1 : Hid (∀ W, Calls Try.prog 52 #[.int .u64 12288, .int .i64 1] W fun e w' => e = .returned (.int .u64 0) ∧ w' = W) := fun W => number_any 12288 1 (by omega) W
  have HS0 : Hid (∀ {W : World} {o1 o2 r : Value} {a : Nat}, Bb W B (win G 0) o1 o2 r a → GAt W G 3 (fun _ => 0) → Calls Try.prog 48 #[.pointer (some ⟨B, 0, none⟩), .int .u64 12288, .int .i64 0, .agg #[.int .u64 69632, .bool true, .bool false, .bool false, .bool false]] W fun e w' => e = .returned (.tuple #[]) ∧ GAt w' G 3 mA ∧ Keeps (fun q => q = G) W w') := fun hb hg => set0 (k := 0) (v := 12288) (x := (69632, true, false, false, false)) (rw' := 69633) hb hg (by omega) hne (by decide) (by decide)
  have HS1 : Hid (∀ {W : World} {o0 o2 r : Value} {a : Nat}, Bb W B o0 (win G 512) o2 r a → GAt W G 3 mA → Calls Try.prog 48 #[.pointer (some ⟨B, 0, none⟩), .int .u64 12288, .int .i64 1, .agg #[.int .u64 73728, .bool true, .bool false, .bool false, .bool false]] W fun e w' => e = .returned (.tuple #[]) ∧ GAt w' G 3 mB ∧ Keeps (fun q => q = G) W w') := fun hb hg => set1 (k := 1) (v := 12288) (x := (73728, true, false, false, false)) (rw' := 73729) hb hg (by omega) hne (by decide) (by decide)
  have HB := Lib.hid h
  have HG := Lib.hid hG
  obtain ⟨c0, c1, c2, c3, c4⟩ := h.cells
  have g0 := hG.cell (p := 0) (by omega)
  unfold win at c0
  clear h hG c1 c2 c3 c4
  go_enter Try.func47, Try.ntmps47
  go_wp2_with fail
  refine wp_loop_rounds 3 ?_
  rw [rounds_succ]
  go_wp2_with fail
  go_region_held3 (fun w' => w'.cell? ⟨B, 0, none⟩ = some (.slice (some ⟨G, 0, none⟩) 1 1) ∧ w'.cell? ⟨G, 0, none⟩ = some (.int .u64 0)) (go_keep) (first | (go_at_call 52; refine (HN0.out _).mono ?_; rintro e w9 ⟨rfl, hw9⟩; have hw9 := hw9.symm; subst hw9))
  all_goals
    have hd : Bb w.drew B (win G 0) o1 o2 (.slice (some ⟨G, 512, none⟩) 2 2) 69632 := HB.out
    have hd2 : GAt w.drew G 3 (fun _ => 0) := HG.out
    have hk0 : Keeps (fun q => q = B ∨ q = G) w w.drew := (Keeps.refl _ w).drew
    have HB1 := Lib.hid hd
    have HG1 := Lib.hid hd2
    have HK1 := Lib.hid hk0
    clear hd hd2 hk0
    generalize w.drew = w1 at *
    clear c0 g0
    go_wp2_with fail
    refine (begin1 (m := 1) HB1.out (by omega) (by omega)).mono ?_
    rintro e w2 ⟨rfl, r, hb2, hr, hk2⟩
    have hr := hr (by omega)
    subst hr
    have HB2 := Lib.hid hb2
    have HG2 := Lib.hid (HG1.out.keeps hk2 (fun e => hne e.symm))
    have HK2 := Lib.hid (HK1.out.trans hk2 (fun _ _ e => Or.inl e))
    clear hb2 hk2 HB1 HG1 HK1
    go_wp2_with fail
    refine (HS0.out HB2.out HG2.out).mono ?_
    rintro e w3 ⟨rfl, hg3, hk3⟩
    have HB3 := Lib.hid (HB2.out.keeps hk3 hne)
    have HG3 := Lib.hid hg3
    have HK3 := Lib.hid (HK2.out.trans hk3 (fun _ _ e => Or.inr e))
    clear hg3 hk3 HB2 HG2 HK2
    obtain ⟨c0, c1, c2, c3, c4⟩ := HB3.out.cells
    have g0 : w3.cell? ⟨G, 512, none⟩ = some (.int .u64 0) := HG3.out.cell (p := 512) (by omega)
    unfold win at c1
    clear c0 c2 c3 c4
    go_wp2_with fail
    rw [rounds_succ]
    go_wp2_with fail
    go_region_held3 (fun w' => w'.cell? ⟨B, 1, none⟩ = some (.slice (some ⟨G, 512, none⟩) 1 1) ∧ w'.cell? ⟨G, 512, none⟩ = some (.int .u64 0)) (go_keep) (first | (go_at_call 52; refine (HN1.out _).mono ?_; rintro e w9 ⟨rfl, hw9⟩; have hw9 := hw9.symm; subst hw9))
    all_goals
      have hd : Bb w3.drew B (win G 0) (win G 512) o2 (.slice (some ⟨G, 1024, none⟩) 1 1) 73728 := HB3.out
      have hd2 : GAt w3.drew G 3 mA := HG3.out
      have hk0 : Keeps (fun q => q = B ∨ q = G) w w3.drew := HK3.out.drew
      have HB1 := Lib.hid hd
      have HG1 := Lib.hid hd2
      have HK1 := Lib.hid hk0
      clear hd hd2 hk0 HB3 HG3 HK3
      generalize w3.drew = w4 at *
      clear c1 g0
      go_wp2_with fail
      refine (begin2 (m := 0) HB1.out (by omega) (by omega)).mono ?_
      rintro e w5 ⟨rfl, r, hb2, _, hk2⟩
      have HB2 := Lib.hid hb2
      have HG2 := Lib.hid (HG1.out.keeps hk2 (fun e => hne e.symm))
      have HK2 := Lib.hid (HK1.out.trans hk2 (fun _ _ e => Or.inl e))
      clear hb2 hk2 HB1 HG1 HK1
      go_wp2_with fail
      refine (HS1.out HB2.out HG2.out).mono ?_
      rintro e w6 ⟨rfl, hg3, hk3⟩
      have HB3 := Lib.hid (HB2.out.keeps hk3 hne)
      have HG3 := Lib.hid hg3
      have HK3 := Lib.hid (HK2.out.trans hk3 (fun _ _ e => Or.inr e))
      clear hg3 hk3 HB2 HG2 HK2
      go_wp2_with fail
      rw [rounds_succ]
      go_wp2_with fail
      go_end0
      exact ⟨rfl, ⟨r, HB3.out⟩, HG3.out, HK3.out⟩
end Go.Proofs.Ytgjamnhepbblhaa
