/- Pages: the list of tables in memory; set. Own work. -/
import Derived.Test.YtjfpdphedpnelaaPgBld
namespace Go.Proofs.Ytjfpdphedpnelaa
open Go.RowKit Wk
set_option linter.unusedVariables false
/-- the cells of a list of tables -/
def cellsG (n : Nat) (M : Nat → Nat) : Array Value := ((List.range (n * 512)).map fun i => Value.int .u64 (M i : Int)).toArray
theorem cellsG_size (n : Nat) (M : Nat → Nat) : (cellsG n M).size = n * 512 := by simp [cellsG]
theorem cellsG_get (n : Nat) (M : Nat → Nat) {i : Nat} (h : i < n * 512) : (cellsG n M)[i]? = some (.int .u64 (M i : Int)) := by simp [cellsG, h]
def putM (M : Nat → Nat) (i x : Nat) : Nat → Nat := fun j => if j = i then x else M j
theorem cellsG_set (n : Nat) (M : Nat → Nat) {p : Nat} (h : p < n * 512) (x : Nat) : (cellsG n M).setIfInBounds p (.int .u64 (x : Int)) = cellsG n (putM M p x) := by
  apply Array.ext_getElem?
  intro i
  rw [Array.getElem?_setIfInBounds, cellsG_size]
  by_cases e : p = i
  · subst e
    rw [if_pos rfl, if_pos h, cellsG_get _ _ h]
    simp [putM]
  · rw [if_neg e]
    by_cases hi : i < n * 512
    · rw [cellsG_get _ _ hi, cellsG_get _ _ hi]
      simp [putM, show i ≠ p from fun a => e a.symm]
    · rw [Array.getElem?_eq_none (by rw [cellsG_size]; omega), Array.getElem?_eq_none (by rw [cellsG_size]; omega)]
/-- a list of tables in its block -/
def GAt (w : World) (G n : Nat) (M : Nat → Nat) : Prop := w.heap[G]? = some (.cells (cellsG n M) 40 (0, 0))
theorem GAt.lt {w : World} {G n : Nat} {M : Nat → Nat} (h : GAt w G n M) : G < w.heap.size := (Array.getElem?_eq_some_iff.1 h).1
theorem GAt.cell {w : World} {G n : Nat} {M : Nat → Nat} (h : GAt w G n M) {p : Nat} (hp : p < n * 512) : w.cell? ⟨G, p, none⟩ = some (.int .u64 (M p : Int)) := by
  rw [cell_of_row _ _ p _ _ _ h, cellsG_get n M hp]
theorem GAt.free {w : World} {G n : Nat} {M : Nat → Nat} (h : GAt w G n M) (p : Nat) : w.frozen? ⟨G, p, none⟩ = false := by
  have h' : w.heap[G]? = _ := h
  simp [World.frozen?, h']
theorem GAt.keeps {S : Nat → Prop} {w w' : World} {G n : Nat} {M : Nat → Nat} (h : GAt w G n M) (k : Keeps S w w') (hn : ¬ S G) : GAt w' G n M := (k.block G h.lt hn).trans h
theorem GAt.below {w w' : World} {G n : Nat} {M : Nat → Nat} (h : GAt w G n M) (hb : Below w.heap.size w w') : GAt w' G n M := (hb.block G h.lt).trans h
theorem GAt.set {w : World} {G n : Nat} {M : Nat → Nat} (h : GAt w G n M) {p : Nat} (hp : p < n * 512) (x : Nat) : GAt (w.setCell ⟨G, p, none⟩ (.int .u64 (x : Int))) G n (putM M p x) := by
  have h' : w.heap[G]? = _ := h
  unfold GAt
  rw [← cellsG_set n M hp x]
  simp [World.setCell, Array.getElem?_modify, h']
theorem GAt.of_made {w : World} {base g n : Nat} (h : w.ownsRow base 40 512 (.slice (some ⟨g, 0, none⟩) n n) n (madeCells (tabV fun _ => 0) (n * 512)).toList) : GAt w g n (fun _ => 0) := by
  rcases h.2 with ⟨hc, _⟩ | ⟨g', cap, cur, hv, _, hg, _, _, hs, ht⟩
  · cases hc
  · cases hv
    unfold GAt
    rw [hg]
    have e : cur = cellsG n (fun _ => 0) := by
      apply Array.ext_getElem?
      intro i
      rw [List.take_of_length_le (by simp [hs])] at ht
      rw [← Array.getElem?_toList, ht]
      by_cases hi : i < n * 512
      · rw [cellsG_get n _ hi, Array.getElem?_toList, Array.getElem?_eq_getElem (by rw [size_madeCells]; exact hi)]
        have hg2 : (madeCells (tabV fun _ => 0) (n * 512))[i]'(by rw [size_madeCells]; exact hi) = (tabV fun _ => 0)[i % (tabV fun _ => 0).size]! := by
          simp only [madeCells, Array.getElem_map, Array.getElem_range]
        rw [hg2, tabV_size, getElem!_def, tabV_get _ (Nat.mod_lt _ (by decide))]
      · rw [List.getElem?_eq_none (by rw [Array.length_toList, size_madeCells]; omega), Array.getElem?_eq_none (by rw [cellsG_size]; omega)]
    rw [e]
theorem cell_past {w : World} {B G i p : Nat} {u v : Value} (h : w.cell? ⟨B, i, none⟩ = some v) (hne : B ≠ G) : (w.setCell ⟨G, p, none⟩ u).cell? ⟨B, i, none⟩ = some v := by
  have e : (w.setCell ⟨G, p, none⟩ u).heap[B]? = w.heap[B]? := Below.heap_setCell _ _ _ _ hne
  unfold World.cell? at h ⊢
  rw [e]
  exact h
theorem cell_pastD {w : World} {B G i p : Nat} {u v : Value} (h : w.cell? ⟨B, i, none⟩ = some v) (hne : B ≠ G) : (w.setCell ⟨G, p, none⟩ u).drew.cell? ⟨B, i, none⟩ = some v := cell_past h hne
set_option maxRecDepth 100000 in
set_option maxHeartbeats 4000000 in
theorem set0 {w : World} {B G n k a : Nat} {o1 o2 r : Value} {M : Nat → Nat} {v : Nat} {x : Wk.Ent} {rw' : Nat} (h : Bb w B (win G (k * 512)) o1 o2 r a) (hG : GAt w G n M) (hk : k < n) (hne : B ≠ G) (hx : x.1 < 18446744073709551616) (hm : makeB x 0 = (rw', 0)) : Calls Try.prog 47 #[.pointer (some ⟨B, 0, none⟩), .int .u64 (v : Int), .int .i64 0, EntV x] w fun e w' => e = .returned (.tuple #[]) ∧ GAt w' G n (putM M (k * 512 + thrF v 0 % 512) rw') ∧ Keeps (fun q => q = G) w w' := by
  have HM : Hid (∀ W, Calls Try.prog 57 #[EntV x, .int .i64 0] W fun e w' => e = .returned (.tuple #[.int .u64 (rw' : Int), .int .i64 0]) ∧ Below W.heap.size W w') := fun W => by
    have h5 := make_any hx 0 W
    rw [hm] at h5
    exact h5
  have HNm : Hid (∀ W, Calls Try.prog 56 #[.int .u64 (v : Int), .int .i64 0] W fun e w' => e = .returned (.int .u64 ((thrF v 0 % 512 : Nat) : Int)) ∧ w' = W) := fun W => number_any v 0 (by omega) W
  obtain ⟨p, hp⟩ : ∃ p, thrF v 0 % 512 = p := ⟨_, rfl⟩
  have hp5 : p < 512 := by rw [← hp]; exact Nat.mod_lt _ (by decide)
  rw [hp] at HNm ⊢
  have hpk : k * 512 + p < n * 512 := by omega
  have HB := Lib.hid h
  have HG := Lib.hid hG
  obtain ⟨F, t1, t2, t3, t4⟩ := x
  unfold EntV at HM ⊢
  simp only at HM ⊢
  have HBl : Hid (Below w.heap.size w (w.alloc (.cells #[.int .u64 (F : Int), .bool t1, .bool t2, .bool t3, .bool t4] 74))) := (Below.refl _ _).alloc (Nat.le_refl _) _
  clear hp h hG hm hx
  go_enter Try.func47, Try.ntmps47
  go_wp2_with fail
  refine (HM.out _).mono ?_
  rintro e w1 ⟨rfl, hb1⟩
  have hb : Below w.heap.size w w1 := HBl.out.trans (hb1.mono HBl.out.size)
  have HB1 := Lib.hid (HB.out.below hb)
  have HG1 := Lib.hid (HG.out.below hb)
  have HBw := Lib.hid hb
  obtain ⟨c0, c1, c2, c3, c4⟩ := HB1.out.cells
  have g1 := HG1.out.cell hpk
  have gf := HG1.out.free (k * 512 + p)
  have jp : (p : Int) < 512 := by omega
  clear hb hb1 HM
  unfold win at c0
  go_wp2_with fail
  go_region_held3 (fun w' => w'.cell? ⟨B, 0, none⟩ = some (.slice (some ⟨G, k * 512, none⟩) 1 1)) (first | (exact cell_pastD c0 hne) | (exact cell_past c0 hne) | go_keep) (first | (go_at_call 56; refine (HNm.out _).mono ?_; rintro e w9 ⟨rfl, hw9⟩; have hw9 := hw9.symm; subst hw9))
  all_goals
    have hk1 : Keeps (fun q => q = G) w (w1.setCell ⟨G, k * 512 + p, none⟩ (.int .u64 (rw' : Int))).drew := ((Keeps.of_below (S := fun q => q = G) HBw.out).trans (Keeps.setCell w1 G (k * 512 + p) (.int .u64 (rw' : Int))) (fun _ _ e => e)).drew
    have hg1 : GAt (w1.setCell ⟨G, k * 512 + p, none⟩ (.int .u64 (rw' : Int))).drew G n (putM M (k * 512 + p) rw') := HG1.out.set hpk rw'
    have HK1 := Lib.hid hk1
    have HG2 := Lib.hid hg1
    clear hk1 hg1
    generalize (w1.setCell ⟨G, k * 512 + p, none⟩ (.int .u64 (rw' : Int))).drew = wz at HK1 HG2 ⊢
    go_wp2_with fail
    go_end0
    exact ⟨rfl, HG2.out, HK1.out⟩
set_option maxRecDepth 100000 in
set_option maxHeartbeats 4000000 in
theorem set1 {w : World} {B G n k a : Nat} {o1 o2 r : Value} {M : Nat → Nat} {v : Nat} {x : Wk.Ent} {rw' : Nat} (h : Bb w B o1 (win G (k * 512)) o2 r a) (hG : GAt w G n M) (hk : k < n) (hne : B ≠ G) (hx : x.1 < 18446744073709551616) (hm : makeB x 1 = (rw', 0)) : Calls Try.prog 47 #[.pointer (some ⟨B, 0, none⟩), .int .u64 (v : Int), .int .i64 1, EntV x] w fun e w' => e = .returned (.tuple #[]) ∧ GAt w' G n (putM M (k * 512 + thrF v 1 % 512) rw') ∧ Keeps (fun q => q = G) w w' := by
  have HM : Hid (∀ W, Calls Try.prog 57 #[EntV x, .int .i64 1] W fun e w' => e = .returned (.tuple #[.int .u64 (rw' : Int), .int .i64 0]) ∧ Below W.heap.size W w') := fun W => by
    have h5 := make_any hx 1 W
    rw [hm] at h5
    exact h5
  have HNm : Hid (∀ W, Calls Try.prog 56 #[.int .u64 (v : Int), .int .i64 1] W fun e w' => e = .returned (.int .u64 ((thrF v 1 % 512 : Nat) : Int)) ∧ w' = W) := fun W => number_any v 1 (by omega) W
  obtain ⟨p, hp⟩ : ∃ p, thrF v 1 % 512 = p := ⟨_, rfl⟩
  have hp5 : p < 512 := by rw [← hp]; exact Nat.mod_lt _ (by decide)
  rw [hp] at HNm ⊢
  have hpk : k * 512 + p < n * 512 := by omega
  have HB := Lib.hid h
  have HG := Lib.hid hG
  obtain ⟨F, t1, t2, t3, t4⟩ := x
  unfold EntV at HM ⊢
  simp only at HM ⊢
  have HBl : Hid (Below w.heap.size w (w.alloc (.cells #[.int .u64 (F : Int), .bool t1, .bool t2, .bool t3, .bool t4] 74))) := (Below.refl _ _).alloc (Nat.le_refl _) _
  clear hp h hG hm hx
  go_enter Try.func47, Try.ntmps47
  go_wp2_with fail
  refine (HM.out _).mono ?_
  rintro e w1 ⟨rfl, hb1⟩
  have hb : Below w.heap.size w w1 := HBl.out.trans (hb1.mono HBl.out.size)
  have HB1 := Lib.hid (HB.out.below hb)
  have HG1 := Lib.hid (HG.out.below hb)
  have HBw := Lib.hid hb
  obtain ⟨c0, c1, c2, c3, c4⟩ := HB1.out.cells
  have g1 := HG1.out.cell hpk
  have gf := HG1.out.free (k * 512 + p)
  have jp : (p : Int) < 512 := by omega
  clear hb hb1 HM
  unfold win at c1
  go_wp2_with fail
  go_region_held3 (fun w' => w'.cell? ⟨B, 1, none⟩ = some (.slice (some ⟨G, k * 512, none⟩) 1 1)) (first | (exact cell_pastD c1 hne) | (exact cell_past c1 hne) | go_keep) (first | (go_at_call 56; refine (HNm.out _).mono ?_; rintro e w9 ⟨rfl, hw9⟩; have hw9 := hw9.symm; subst hw9))
  all_goals
    have hk1 : Keeps (fun q => q = G) w (w1.setCell ⟨G, k * 512 + p, none⟩ (.int .u64 (rw' : Int))).drew := ((Keeps.of_below (S := fun q => q = G) HBw.out).trans (Keeps.setCell w1 G (k * 512 + p) (.int .u64 (rw' : Int))) (fun _ _ e => e)).drew
    have hg1 : GAt (w1.setCell ⟨G, k * 512 + p, none⟩ (.int .u64 (rw' : Int))).drew G n (putM M (k * 512 + p) rw') := HG1.out.set hpk rw'
    have HK1 := Lib.hid hk1
    have HG2 := Lib.hid hg1
    clear hk1 hg1
    generalize (w1.setCell ⟨G, k * 512 + p, none⟩ (.int .u64 (rw' : Int))).drew = wz at HK1 HG2 ⊢
    go_wp2_with fail
    go_end0
    exact ⟨rfl, HG2.out, HK1.out⟩
set_option maxRecDepth 100000 in
set_option maxHeartbeats 4000000 in
theorem set2 {w : World} {B G n k a : Nat} {o1 o2 r : Value} {M : Nat → Nat} {v : Nat} {x : Wk.Ent} {rw' : Nat} (h : Bb w B o1 o2 (win G (k * 512)) r a) (hG : GAt w G n M) (hk : k < n) (hne : B ≠ G) (hx : x.1 < 18446744073709551616) (hm : makeB x 2 = (rw', 0)) : Calls Try.prog 47 #[.pointer (some ⟨B, 0, none⟩), .int .u64 (v : Int), .int .i64 2, EntV x] w fun e w' => e = .returned (.tuple #[]) ∧ GAt w' G n (putM M (k * 512 + thrF v 2 % 512) rw') ∧ Keeps (fun q => q = G) w w' := by
  have HM : Hid (∀ W, Calls Try.prog 57 #[EntV x, .int .i64 2] W fun e w' => e = .returned (.tuple #[.int .u64 (rw' : Int), .int .i64 0]) ∧ Below W.heap.size W w') := fun W => by
    have h5 := make_any hx 2 W
    rw [hm] at h5
    exact h5
  have HNm : Hid (∀ W, Calls Try.prog 56 #[.int .u64 (v : Int), .int .i64 2] W fun e w' => e = .returned (.int .u64 ((thrF v 2 % 512 : Nat) : Int)) ∧ w' = W) := fun W => number_any v 2 (by omega) W
  obtain ⟨p, hp⟩ : ∃ p, thrF v 2 % 512 = p := ⟨_, rfl⟩
  have hp5 : p < 512 := by rw [← hp]; exact Nat.mod_lt _ (by decide)
  rw [hp] at HNm ⊢
  have hpk : k * 512 + p < n * 512 := by omega
  have HB := Lib.hid h
  have HG := Lib.hid hG
  obtain ⟨F, t1, t2, t3, t4⟩ := x
  unfold EntV at HM ⊢
  simp only at HM ⊢
  have HBl : Hid (Below w.heap.size w (w.alloc (.cells #[.int .u64 (F : Int), .bool t1, .bool t2, .bool t3, .bool t4] 74))) := (Below.refl _ _).alloc (Nat.le_refl _) _
  clear hp h hG hm hx
  go_enter Try.func47, Try.ntmps47
  go_wp2_with fail
  refine (HM.out _).mono ?_
  rintro e w1 ⟨rfl, hb1⟩
  have hb : Below w.heap.size w w1 := HBl.out.trans (hb1.mono HBl.out.size)
  have HB1 := Lib.hid (HB.out.below hb)
  have HG1 := Lib.hid (HG.out.below hb)
  have HBw := Lib.hid hb
  obtain ⟨c0, c1, c2, c3, c4⟩ := HB1.out.cells
  have g1 := HG1.out.cell hpk
  have gf := HG1.out.free (k * 512 + p)
  have jp : (p : Int) < 512 := by omega
  clear hb hb1 HM
  unfold win at c2
  go_wp2_with fail
  go_region_held3 (fun w' => w'.cell? ⟨B, 2, none⟩ = some (.slice (some ⟨G, k * 512, none⟩) 1 1)) (first | (exact cell_pastD c2 hne) | (exact cell_past c2 hne) | go_keep) (first | (go_at_call 56; refine (HNm.out _).mono ?_; rintro e w9 ⟨rfl, hw9⟩; have hw9 := hw9.symm; subst hw9))
  all_goals
    have hk1 : Keeps (fun q => q = G) w (w1.setCell ⟨G, k * 512 + p, none⟩ (.int .u64 (rw' : Int))).drew := ((Keeps.of_below (S := fun q => q = G) HBw.out).trans (Keeps.setCell w1 G (k * 512 + p) (.int .u64 (rw' : Int))) (fun _ _ e => e)).drew
    have hg1 : GAt (w1.setCell ⟨G, k * 512 + p, none⟩ (.int .u64 (rw' : Int))).drew G n (putM M (k * 512 + p) rw') := HG1.out.set hpk rw'
    have HK1 := Lib.hid hk1
    have HG2 := Lib.hid hg1
    clear hk1 hg1
    generalize (w1.setCell ⟨G, k * 512 + p, none⟩ (.int .u64 (rw' : Int))).drew = wz at HK1 HG2 ⊢
    go_wp2_with fail
    go_end0
    exact ⟨rfl, HG2.out, HK1.out⟩
end Go.Proofs.Ytjfpdphedpnelaa
