/- Lanes: what known asks of its two slots (its drawn region written by parts/gen_lnask.py). Own work. -/
import Derived.Test.YtkhlkbgolonkkaaLnFlat
import Derived.Laws.FloatArith
import Derived.Test.YtkhlkbgolonkkaaSpTake
namespace Go.Proofs.Ytkhlkbgolonkkaa
open Go.RowKit
/-- the slots a 0 to 3, nobody 3 to 10 in memory -/
structure Sl2 (w : World) (g : Nat) : Prop where
  c0 : w.cell? ⟨g, 0, none⟩ = some (.string ⟨#[97]⟩)
  c1 : w.cell? ⟨g, 1, none⟩ = some (.int .i64 0)
  c2 : w.cell? ⟨g, 2, none⟩ = some (.int .i64 3)
  c3 : w.cell? ⟨g, 3, none⟩ = some (.string ⟨#[]⟩)
  c4 : w.cell? ⟨g, 4, none⟩ = some (.int .i64 3)
  c5 : w.cell? ⟨g, 5, none⟩ = some (.int .i64 10)
theorem Sl2.lt {w : World} {g : Nat} (h : Sl2 w g) : g < w.heap.size := World.block_lt_of_cell? w _ h.c0
theorem Sl2.below {w w' : World} {g B : Nat} (h : Sl2 w g) (hg : g < B) (hb : Below B w w') : Sl2 w' g :=
  ⟨by rw [hb.cell (p := ⟨g, _, none⟩) hg]; exact h.c0, by rw [hb.cell (p := ⟨g, _, none⟩) hg]; exact h.c1, by rw [hb.cell (p := ⟨g, _, none⟩) hg]; exact h.c2, by rw [hb.cell (p := ⟨g, _, none⟩) hg]; exact h.c3, by rw [hb.cell (p := ⟨g, _, none⟩) hg]; exact h.c4, by rw [hb.cell (p := ⟨g, _, none⟩) hg]; exact h.c5⟩
theorem sl2_of {w : World} {base : Nat} {v : Value} (h : OwnS w base v [⟨sA, 0, 3⟩, ⟨sN, 3, 10⟩]) : ∃ g c, v = .slice (some ⟨g, 0, none⟩) 2 c ∧ Sl2 w g ∧ 2 ≤ c ∧ c ≤ maxLen ∧ base ≤ g := by
  obtain ⟨g, c, rfl, hg1, hg2, hc, hm⟩ := h.pos (by decide)
  exact ⟨g, c, rfl, ⟨h.cell 0 0 (by decide) (by decide), h.cell 0 1 (by decide) (by decide), h.cell 0 2 (by decide) (by decide), h.cell 1 0 (by decide) (by decide), h.cell 1 1 (by decide) (by decide), h.cell 1 2 (by decide) (by decide)⟩, hc, hm, hg1⟩
set_option maxRecDepth 100000 in
set_option maxHeartbeats 4000000 in
theorem length_two {w : World} {g c : Nat} (h : Sl2 w g) (hc : 2 ≤ c) (hm : c ≤ maxLen) : Calls Try.prog 32 #[.slice (some ⟨g, 0, none⟩) 2 c] w fun e w' => e = .returned (.int .i64 10) ∧ Below w.heap.size w w' := by
  unfold maxLen at hm
  have HT := Lib.hid h
  have hci : (2 : Int) ≤ (c : Int) := by omega
  clear h
  go_enter Try.func32, Try.ntmps32
  go_wp2_with fail
  go_loopw [3, 8] (fun ev iv wr => Hid (Below w.heap.size w wr) ∧ ((iv = .int .i64 0 ∧ ev = .int .i64 0) ∨ (iv = .int .i64 1 ∧ ev = .int .i64 3) ∨ (iv = .int .i64 2 ∧ ev = .int .i64 10))) (fun _ iv _ => 2 - (intOf iv).toNat)
  case atStart => exact ⟨Below.refl _ _, .inl ⟨rfl, rfl⟩⟩
  case round =>
    obtain ⟨HB, ⟨rfl, rfl⟩ | ⟨rfl, rfl⟩ | ⟨rfl, rfl⟩⟩ := hrel
    · obtain ⟨c0, c1, c2, c3, c4, c5⟩ := HT.out.below HT.out.lt HB.out
      have z0 := cell_alloc c0 (.cells #[.string ⟨#[97]⟩, .int .i64 0, .int .i64 3] 37)
      have hblk : (wr.alloc (.cells #[.string ⟨#[97]⟩, .int .i64 0, .int .i64 3] 37)).heap[wr.heap.size]? = some (.cells #[.string ⟨#[97]⟩, .int .i64 0, .int .i64 3] 37 (0, 0)) := Array.getElem?_push_size
      have n0 : (wr.alloc (.cells #[.string ⟨#[97]⟩, .int .i64 0, .int .i64 3] 37)).cell? ⟨wr.heap.size, 0, none⟩ = some (.string ⟨#[97]⟩) := by rw [cell_of_row _ _ _ _ _ _ hblk]; rfl
      have n1 : (wr.alloc (.cells #[.string ⟨#[97]⟩, .int .i64 0, .int .i64 3] 37)).cell? ⟨wr.heap.size, 1, none⟩ = some (.int .i64 0) := by rw [cell_of_row _ _ _ _ _ _ hblk]; rfl
      have n2 : (wr.alloc (.cells #[.string ⟨#[97]⟩, .int .i64 0, .int .i64 3] 37)).cell? ⟨wr.heap.size, 2, none⟩ = some (.int .i64 3) := by rw [cell_of_row _ _ _ _ _ _ hblk]; rfl
      have HA : Hid (Below w.heap.size w (wr.alloc (.cells #[.string ⟨#[97]⟩, .int .i64 0, .int .i64 3] 37))) := HB.out.alloc HB.out.size _
      clear hblk
      go_wp2_with fail
      generalize (wr.alloc (.cells #[.string ⟨#[97]⟩, .int .i64 0, .int .i64 3] 37)) = W at *
      clear c0 c1 c2 c3 c4 c5
      refine wp_region_held_drew (S := fun w' => w'.cell? ⟨wr.heap.size, 0, none⟩ = some (.string ⟨#[97]⟩) ∧ w'.cell? ⟨wr.heap.size, 1, none⟩ = some (.int .i64 0) ∧ w'.cell? ⟨wr.heap.size, 2, none⟩ = some (.int .i64 3) ∧ w'.cell? ⟨g, 0, none⟩ = some (.string ⟨#[97]⟩)) (by kernel_rfl) ⟨n0, n1, n2, z0⟩ (fun hHeld => ?_)
      simp only [List.size_toArray, List.length_cons, List.length_nil]
      refine takeH (i := 0) (d := 13) (v := .pointer (some ⟨wr.heap.size, 1, none⟩)) rfl rfl (by kernel_rfl) (by kernel_rfl) (by kernel_rfl) (fun _ _ _ h => h) (Or.inl ⟨by kernel_rfl, by intro w hSw; (try dsimp only at hSw); obtain ⟨hSa, hSb, hSc, hSd⟩ := hSw; go_simp; try rfl⟩) (by assumption) ?_
      simp only [Act.put, List.setIfInBounds_toArray, List.set_cons_succ, List.set_cons_zero]
      refine takeH (i := 1) (d := 14) (v := .int .i64 0) rfl rfl (by kernel_rfl) (by kernel_rfl) (by kernel_rfl) (fun _ _ _ h => h) (Or.inl ⟨by kernel_rfl, by intro w hSw; (try dsimp only at hSw); obtain ⟨hSa, hSb, hSc, hSd⟩ := hSw; go_simp; try rfl⟩) (by assumption) ?_
      simp only [Act.put, List.setIfInBounds_toArray, List.set_cons_succ, List.set_cons_zero]
      refine takeH (i := 2) (d := 15) (v := .int .i64 0) rfl rfl (by kernel_rfl) (by kernel_rfl) (by kernel_rfl) (fun _ _ _ h => h) (Or.inl ⟨by kernel_rfl, by intro w hSw; (try dsimp only at hSw); obtain ⟨hSa, hSb, hSc, hSd⟩ := hSw; go_simp; try rfl⟩) (by assumption) ?_
      simp only [Act.put, List.setIfInBounds_toArray, List.set_cons_succ, List.set_cons_zero]
      refine takeH (i := 3) (d := 16) (v := .bool false) rfl rfl (by kernel_rfl) (by kernel_rfl) (by kernel_rfl) (fun _ _ _ h => h) (Or.inl ⟨by kernel_rfl, by intro w hSw; (try dsimp only at hSw); obtain ⟨hSa, hSb, hSc, hSd⟩ := hSw; go_simp; try rfl⟩) (by assumption) ?_
      simp only [Act.put, List.setIfInBounds_toArray, List.set_cons_succ, List.set_cons_zero]
      refine takeH (i := 4) (d := 17) (v := .bool false) rfl rfl (by kernel_rfl) (by kernel_rfl) (by kernel_rfl) (fun _ _ _ h => h) (Or.inl ⟨by kernel_rfl, by intro w hSw; (try dsimp only at hSw); obtain ⟨hSa, hSb, hSc, hSd⟩ := hSw; go_simp; try rfl⟩) (by assumption) ?_
      simp only [Act.put, List.setIfInBounds_toArray, List.set_cons_succ, List.set_cons_zero]
      refine takeH (i := 5) (d := 18) (v := .pointer (some ⟨wr.heap.size, 2, none⟩)) rfl rfl (by kernel_rfl) (by kernel_rfl) (by kernel_rfl) (fun _ _ _ h => h) (Or.inl ⟨by kernel_rfl, by intro w hSw; (try dsimp only at hSw); obtain ⟨hSa, hSb, hSc, hSd⟩ := hSw; go_simp; try rfl⟩) (by assumption) ?_
      simp only [Act.put, List.setIfInBounds_toArray, List.set_cons_succ, List.set_cons_zero]
      refine takeH (i := 6) (d := 19) (v := .int .i64 3) rfl rfl (by kernel_rfl) (by kernel_rfl) (by kernel_rfl) (fun _ _ _ h => h) (Or.inl ⟨by kernel_rfl, by intro w hSw; (try dsimp only at hSw); obtain ⟨hSa, hSb, hSc, hSd⟩ := hSw; go_simp; try rfl⟩) (by assumption) ?_
      simp only [Act.put, List.setIfInBounds_toArray, List.set_cons_succ, List.set_cons_zero]
      refine takeH (i := 7) (d := 20) (v := .int .i64 0) rfl rfl (by kernel_rfl) (by kernel_rfl) (by kernel_rfl) (fun _ _ _ h => h) (Or.inl ⟨by kernel_rfl, by intro w hSw; (try dsimp only at hSw); obtain ⟨hSa, hSb, hSc, hSd⟩ := hSw; go_simp; try rfl⟩) (by assumption) ?_
      simp only [Act.put, List.setIfInBounds_toArray, List.set_cons_succ, List.set_cons_zero]
      refine takeH (i := 8) (d := 21) (v := .bool false) rfl rfl (by kernel_rfl) (by kernel_rfl) (by kernel_rfl) (fun _ _ _ h => h) (Or.inl ⟨by kernel_rfl, by intro w hSw; (try dsimp only at hSw); obtain ⟨hSa, hSb, hSc, hSd⟩ := hSw; go_simp; try rfl⟩) (by assumption) ?_
      simp only [Act.put, List.setIfInBounds_toArray, List.set_cons_succ, List.set_cons_zero]
      refine takeH (i := 9) (d := 22) (v := .bool false) rfl rfl (by kernel_rfl) (by kernel_rfl) (by kernel_rfl) (fun _ _ _ h => h) (Or.inl ⟨by kernel_rfl, by intro w hSw; (try dsimp only at hSw); obtain ⟨hSa, hSb, hSc, hSd⟩ := hSw; go_simp; try rfl⟩) (by assumption) ?_
      simp only [Act.put, List.setIfInBounds_toArray, List.set_cons_succ, List.set_cons_zero]
      refine takeH (i := 10) (d := 23) (v := .bool false) rfl rfl (by kernel_rfl) (by kernel_rfl) (by kernel_rfl) (fun _ _ _ h => h) (Or.inl ⟨by kernel_rfl, by intro w hSw; (try dsimp only at hSw); obtain ⟨hSa, hSb, hSc, hSd⟩ := hSw; go_simp; try rfl⟩) (by assumption) ?_
      simp only [Act.put, List.setIfInBounds_toArray, List.set_cons_succ, List.set_cons_zero]
      refine takeH (i := 11) (d := 24) (v := .int .i64 0) rfl rfl (by kernel_rfl) (by kernel_rfl) (by kernel_rfl) (fun _ _ _ h => h) (Or.inl ⟨by kernel_rfl, by intro w hSw; (try dsimp only at hSw); obtain ⟨hSa, hSb, hSc, hSd⟩ := hSw; go_simp; try rfl⟩) (by assumption) ?_
      simp only [Act.put, List.setIfInBounds_toArray, List.set_cons_succ, List.set_cons_zero]
      refine takeH (i := 12) (d := 25) (v := .bool false) rfl rfl (by kernel_rfl) (by kernel_rfl) (by kernel_rfl) (fun _ _ _ h => h) (Or.inl ⟨by kernel_rfl, by intro w hSw; (try dsimp only at hSw); obtain ⟨hSa, hSb, hSc, hSd⟩ := hSw; go_simp; try rfl⟩) (by assumption) ?_
      simp only [Act.put, List.setIfInBounds_toArray, List.set_cons_succ, List.set_cons_zero]
      refine takeH (i := 13) (d := 26) (v := .bool false) rfl rfl (by kernel_rfl) (by kernel_rfl) (by kernel_rfl) (fun _ _ _ h => h) (Or.inl ⟨by kernel_rfl, by intro w hSw; (try dsimp only at hSw); obtain ⟨hSa, hSb, hSc, hSd⟩ := hSw; go_simp; try rfl⟩) (by assumption) ?_
      simp only [Act.put, List.setIfInBounds_toArray, List.set_cons_succ, List.set_cons_zero]
      refine takeH (i := 14) (d := 27) (v := undef) rfl rfl (by kernel_rfl) (by kernel_rfl) (by kernel_rfl) (fun _ _ _ h => h) (Or.inr ⟨by kernel_rfl, rfl⟩) (by assumption) ?_
      simp only [Act.put, List.setIfInBounds_toArray, List.set_cons_succ, List.set_cons_zero]
      refine takeH (i := 15) (d := 28) (v := undef) rfl rfl (by kernel_rfl) (by kernel_rfl) (by kernel_rfl) (fun _ _ _ h => h) (Or.inr ⟨by kernel_rfl, rfl⟩) (by assumption) ?_
      simp only [Act.put, List.setIfInBounds_toArray, List.set_cons_succ, List.set_cons_zero]
      refine takeH (i := 16) (d := 29) (v := undef) rfl rfl (by kernel_rfl) (by kernel_rfl) (by kernel_rfl) (fun _ _ _ h => h) (Or.inr ⟨by kernel_rfl, rfl⟩) (by assumption) ?_
      simp only [Act.put, List.setIfInBounds_toArray, List.set_cons_succ, List.set_cons_zero]
      refine takeH (i := 17) (d := 30) (v := undef) rfl rfl (by kernel_rfl) (by kernel_rfl) (by kernel_rfl) (fun _ _ _ h => h) (Or.inr ⟨by kernel_rfl, rfl⟩) (by assumption) ?_
      simp only [Act.put, List.setIfInBounds_toArray, List.set_cons_succ, List.set_cons_zero]
      refine takeH (i := 18) (d := 31) (v := undef) rfl rfl (by kernel_rfl) (by kernel_rfl) (by kernel_rfl) (fun _ _ _ h => h) (Or.inr ⟨by kernel_rfl, rfl⟩) (by assumption) ?_
      simp only [Act.put, List.setIfInBounds_toArray, List.set_cons_succ, List.set_cons_zero]
      refine takeH (i := 19) (d := 32) (v := undef) rfl rfl (by kernel_rfl) (by kernel_rfl) (by kernel_rfl) (fun _ _ _ h => h) (Or.inr ⟨by kernel_rfl, rfl⟩) (by assumption) ?_
      simp only [Act.put, List.setIfInBounds_toArray, List.set_cons_succ, List.set_cons_zero]
      refine takeH (i := 20) (d := 33) (v := undef) rfl rfl (by kernel_rfl) (by kernel_rfl) (by kernel_rfl) (fun _ _ _ h => h) (Or.inr ⟨by kernel_rfl, rfl⟩) (by assumption) ?_
      simp only [Act.put, List.setIfInBounds_toArray, List.set_cons_succ, List.set_cons_zero]
      refine takeH (i := 21) (d := 34) (v := undef) rfl rfl (by kernel_rfl) (by kernel_rfl) (by kernel_rfl) (fun _ _ _ h => h) (Or.inr ⟨by kernel_rfl, rfl⟩) (by assumption) ?_
      simp only [Act.put, List.setIfInBounds_toArray, List.set_cons_succ, List.set_cons_zero]
      refine takeH (i := 22) (d := 35) (v := undef) rfl rfl (by kernel_rfl) (by kernel_rfl) (by kernel_rfl) (fun _ _ _ h => h) (Or.inr ⟨by kernel_rfl, rfl⟩) (by assumption) ?_
      simp only [Act.put, List.setIfInBounds_toArray, List.set_cons_succ, List.set_cons_zero]
      refine takeH (i := 23) (d := 36) (v := .bool false) rfl rfl (by kernel_rfl) (by kernel_rfl) (by kernel_rfl) (fun _ _ _ h => h) (Or.inl ⟨by kernel_rfl, by intro w hSw; (try dsimp only at hSw); obtain ⟨hSa, hSb, hSc, hSd⟩ := hSw; go_simp; try rfl⟩) (by assumption) ?_
      simp only [Act.put, List.setIfInBounds_toArray, List.set_cons_succ, List.set_cons_zero]
      refine takeH (i := 24) (d := 37) (v := .bool false) rfl rfl (by kernel_rfl) (by kernel_rfl) (by kernel_rfl) (fun _ _ _ h => h) (Or.inl ⟨by kernel_rfl, by intro w hSw; (try dsimp only at hSw); obtain ⟨hSa, hSb, hSc, hSd⟩ := hSw; go_simp; try rfl⟩) (by assumption) ?_
      simp only [Act.put, List.setIfInBounds_toArray, List.set_cons_succ, List.set_cons_zero]
      refine wpAnyH_done (by kernel_rfl) ?_ _
      all_goals
        go_wp2_with fail
        go_roundw
        case rel => exact ⟨HA.out.drew, .inr (.inl ⟨rfl, rfl⟩)⟩
        case measure => simp [intOf]
    · obtain ⟨c0, c1, c2, c3, c4, c5⟩ := HT.out.below HT.out.lt HB.out
      have z0 := cell_alloc c0 (.cells #[.string ⟨#[]⟩, .int .i64 3, .int .i64 10] 37)
      have hblk : (wr.alloc (.cells #[.string ⟨#[]⟩, .int .i64 3, .int .i64 10] 37)).heap[wr.heap.size]? = some (.cells #[.string ⟨#[]⟩, .int .i64 3, .int .i64 10] 37 (0, 0)) := Array.getElem?_push_size
      have n0 : (wr.alloc (.cells #[.string ⟨#[]⟩, .int .i64 3, .int .i64 10] 37)).cell? ⟨wr.heap.size, 0, none⟩ = some (.string ⟨#[]⟩) := by rw [cell_of_row _ _ _ _ _ _ hblk]; rfl
      have n1 : (wr.alloc (.cells #[.string ⟨#[]⟩, .int .i64 3, .int .i64 10] 37)).cell? ⟨wr.heap.size, 1, none⟩ = some (.int .i64 3) := by rw [cell_of_row _ _ _ _ _ _ hblk]; rfl
      have n2 : (wr.alloc (.cells #[.string ⟨#[]⟩, .int .i64 3, .int .i64 10] 37)).cell? ⟨wr.heap.size, 2, none⟩ = some (.int .i64 10) := by rw [cell_of_row _ _ _ _ _ _ hblk]; rfl
      have HA : Hid (Below w.heap.size w (wr.alloc (.cells #[.string ⟨#[]⟩, .int .i64 3, .int .i64 10] 37))) := HB.out.alloc HB.out.size _
      clear hblk
      go_wp2_with fail
      generalize (wr.alloc (.cells #[.string ⟨#[]⟩, .int .i64 3, .int .i64 10] 37)) = W at *
      clear c0 c1 c2 c3 c4 c5
      refine wp_region_held_drew (S := fun w' => w'.cell? ⟨wr.heap.size, 0, none⟩ = some (.string ⟨#[]⟩) ∧ w'.cell? ⟨wr.heap.size, 1, none⟩ = some (.int .i64 3) ∧ w'.cell? ⟨wr.heap.size, 2, none⟩ = some (.int .i64 10) ∧ w'.cell? ⟨g, 0, none⟩ = some (.string ⟨#[97]⟩)) (by kernel_rfl) ⟨n0, n1, n2, z0⟩ (fun hHeld => ?_)
      simp only [List.size_toArray, List.length_cons, List.length_nil]
      refine takeH (i := 0) (d := 13) (v := .pointer (some ⟨wr.heap.size, 1, none⟩)) rfl rfl (by kernel_rfl) (by kernel_rfl) (by kernel_rfl) (fun _ _ _ h => h) (Or.inl ⟨by kernel_rfl, by intro w hSw; (try dsimp only at hSw); obtain ⟨hSa, hSb, hSc, hSd⟩ := hSw; go_simp; try rfl⟩) (by assumption) ?_
      simp only [Act.put, List.setIfInBounds_toArray, List.set_cons_succ, List.set_cons_zero]
      refine takeH (i := 1) (d := 14) (v := .int .i64 3) rfl rfl (by kernel_rfl) (by kernel_rfl) (by kernel_rfl) (fun _ _ _ h => h) (Or.inl ⟨by kernel_rfl, by intro w hSw; (try dsimp only at hSw); obtain ⟨hSa, hSb, hSc, hSd⟩ := hSw; go_simp; try rfl⟩) (by assumption) ?_
      simp only [Act.put, List.setIfInBounds_toArray, List.set_cons_succ, List.set_cons_zero]
      refine takeH (i := 2) (d := 15) (v := .int .i64 3) rfl rfl (by kernel_rfl) (by kernel_rfl) (by kernel_rfl) (fun _ _ _ h => h) (Or.inl ⟨by kernel_rfl, by intro w hSw; (try dsimp only at hSw); obtain ⟨hSa, hSb, hSc, hSd⟩ := hSw; go_simp; try rfl⟩) (by assumption) ?_
      simp only [Act.put, List.setIfInBounds_toArray, List.set_cons_succ, List.set_cons_zero]
      refine takeH (i := 3) (d := 16) (v := .bool false) rfl rfl (by kernel_rfl) (by kernel_rfl) (by kernel_rfl) (fun _ _ _ h => h) (Or.inl ⟨by kernel_rfl, by intro w hSw; (try dsimp only at hSw); obtain ⟨hSa, hSb, hSc, hSd⟩ := hSw; go_simp; try rfl⟩) (by assumption) ?_
      simp only [Act.put, List.setIfInBounds_toArray, List.set_cons_succ, List.set_cons_zero]
      refine takeH (i := 4) (d := 17) (v := .bool false) rfl rfl (by kernel_rfl) (by kernel_rfl) (by kernel_rfl) (fun _ _ _ h => h) (Or.inl ⟨by kernel_rfl, by intro w hSw; (try dsimp only at hSw); obtain ⟨hSa, hSb, hSc, hSd⟩ := hSw; go_simp; try rfl⟩) (by assumption) ?_
      simp only [Act.put, List.setIfInBounds_toArray, List.set_cons_succ, List.set_cons_zero]
      refine takeH (i := 5) (d := 18) (v := .pointer (some ⟨wr.heap.size, 2, none⟩)) rfl rfl (by kernel_rfl) (by kernel_rfl) (by kernel_rfl) (fun _ _ _ h => h) (Or.inl ⟨by kernel_rfl, by intro w hSw; (try dsimp only at hSw); obtain ⟨hSa, hSb, hSc, hSd⟩ := hSw; go_simp; try rfl⟩) (by assumption) ?_
      simp only [Act.put, List.setIfInBounds_toArray, List.set_cons_succ, List.set_cons_zero]
      refine takeH (i := 6) (d := 19) (v := .int .i64 10) rfl rfl (by kernel_rfl) (by kernel_rfl) (by kernel_rfl) (fun _ _ _ h => h) (Or.inl ⟨by kernel_rfl, by intro w hSw; (try dsimp only at hSw); obtain ⟨hSa, hSb, hSc, hSd⟩ := hSw; go_simp; try rfl⟩) (by assumption) ?_
      simp only [Act.put, List.setIfInBounds_toArray, List.set_cons_succ, List.set_cons_zero]
      refine takeH (i := 7) (d := 20) (v := .int .i64 3) rfl rfl (by kernel_rfl) (by kernel_rfl) (by kernel_rfl) (fun _ _ _ h => h) (Or.inl ⟨by kernel_rfl, by intro w hSw; (try dsimp only at hSw); obtain ⟨hSa, hSb, hSc, hSd⟩ := hSw; go_simp; try rfl⟩) (by assumption) ?_
      simp only [Act.put, List.setIfInBounds_toArray, List.set_cons_succ, List.set_cons_zero]
      refine takeH (i := 8) (d := 21) (v := .bool false) rfl rfl (by kernel_rfl) (by kernel_rfl) (by kernel_rfl) (fun _ _ _ h => h) (Or.inl ⟨by kernel_rfl, by intro w hSw; (try dsimp only at hSw); obtain ⟨hSa, hSb, hSc, hSd⟩ := hSw; go_simp; try rfl⟩) (by assumption) ?_
      simp only [Act.put, List.setIfInBounds_toArray, List.set_cons_succ, List.set_cons_zero]
      refine takeH (i := 9) (d := 22) (v := .bool false) rfl rfl (by kernel_rfl) (by kernel_rfl) (by kernel_rfl) (fun _ _ _ h => h) (Or.inl ⟨by kernel_rfl, by intro w hSw; (try dsimp only at hSw); obtain ⟨hSa, hSb, hSc, hSd⟩ := hSw; go_simp; try rfl⟩) (by assumption) ?_
      simp only [Act.put, List.setIfInBounds_toArray, List.set_cons_succ, List.set_cons_zero]
      refine takeH (i := 10) (d := 23) (v := .bool false) rfl rfl (by kernel_rfl) (by kernel_rfl) (by kernel_rfl) (fun _ _ _ h => h) (Or.inl ⟨by kernel_rfl, by intro w hSw; (try dsimp only at hSw); obtain ⟨hSa, hSb, hSc, hSd⟩ := hSw; go_simp; try rfl⟩) (by assumption) ?_
      simp only [Act.put, List.setIfInBounds_toArray, List.set_cons_succ, List.set_cons_zero]
      refine takeH (i := 11) (d := 24) (v := .int .i64 1) rfl rfl (by kernel_rfl) (by kernel_rfl) (by kernel_rfl) (fun _ _ _ h => h) (Or.inl ⟨by kernel_rfl, by intro w hSw; (try dsimp only at hSw); obtain ⟨hSa, hSb, hSc, hSd⟩ := hSw; go_simp; try rfl⟩) (by assumption) ?_
      simp only [Act.put, List.setIfInBounds_toArray, List.set_cons_succ, List.set_cons_zero]
      refine takeH (i := 12) (d := 25) (v := .bool true) rfl rfl (by kernel_rfl) (by kernel_rfl) (by kernel_rfl) (fun _ _ _ h => h) (Or.inl ⟨by kernel_rfl, by intro w hSw; (try dsimp only at hSw); obtain ⟨hSa, hSb, hSc, hSd⟩ := hSw; go_simp; try rfl⟩) (by assumption) ?_
      simp only [Act.put, List.setIfInBounds_toArray, List.set_cons_succ, List.set_cons_zero]
      refine takeH (i := 13) (d := 26) (v := .bool true) rfl rfl (by kernel_rfl) (by kernel_rfl) (by kernel_rfl) (fun _ _ _ h => h) (Or.inl ⟨by kernel_rfl, by intro w hSw; (try dsimp only at hSw); obtain ⟨hSa, hSb, hSc, hSd⟩ := hSw; go_simp; try rfl⟩) (by assumption) ?_
      simp only [Act.put, List.setIfInBounds_toArray, List.set_cons_succ, List.set_cons_zero]
      refine takeH (i := 14) (d := 27) (v := .pointer (some ⟨wr.heap.size, 0, none⟩)) rfl rfl (by kernel_rfl) (by kernel_rfl) (by kernel_rfl) (fun _ _ _ h => h) (Or.inl ⟨by kernel_rfl, by intro w hSw; (try dsimp only at hSw); obtain ⟨hSa, hSb, hSc, hSd⟩ := hSw; go_simp; try rfl⟩) (by assumption) ?_
      simp only [Act.put, List.setIfInBounds_toArray, List.set_cons_succ, List.set_cons_zero]
      refine takeH (i := 15) (d := 28) (v := .string ⟨#[]⟩) rfl rfl (by kernel_rfl) (by kernel_rfl) (by kernel_rfl) (fun _ _ _ h => h) (Or.inl ⟨by kernel_rfl, by intro w hSw; (try dsimp only at hSw); obtain ⟨hSa, hSb, hSc, hSd⟩ := hSw; go_simp; try rfl⟩) (by assumption) ?_
      simp only [Act.put, List.setIfInBounds_toArray, List.set_cons_succ, List.set_cons_zero]
      refine takeH (i := 16) (d := 29) (v := .slice (some ⟨g, 0, none⟩) 2 c) rfl rfl (by kernel_rfl) (by kernel_rfl) (by kernel_rfl) (fun _ _ _ h => h) (Or.inl ⟨by kernel_rfl, by intro w hSw; (try dsimp only at hSw); obtain ⟨hSa, hSb, hSc, hSd⟩ := hSw; go_simp; try rfl⟩) (by assumption) ?_
      simp only [Act.put, List.setIfInBounds_toArray, List.set_cons_succ, List.set_cons_zero]
      refine takeH (i := 17) (d := 30) (v := .int .i64 1) rfl rfl (by kernel_rfl) (by kernel_rfl) (by kernel_rfl) (fun _ _ _ h => h) (Or.inl ⟨by kernel_rfl, by intro w hSw; (try dsimp only at hSw); obtain ⟨hSa, hSb, hSc, hSd⟩ := hSw; go_simp; try rfl⟩) (by assumption) ?_
      simp only [Act.put, List.setIfInBounds_toArray, List.set_cons_succ, List.set_cons_zero]
      refine takeH (i := 18) (d := 31) (v := .int .i64 0) rfl rfl (by kernel_rfl) (by kernel_rfl) (by kernel_rfl) (fun _ _ _ h => h) (Or.inl ⟨by kernel_rfl, by intro w hSw; (try dsimp only at hSw); obtain ⟨hSa, hSb, hSc, hSd⟩ := hSw; go_simp; try rfl⟩) (by assumption) ?_
      simp only [Act.put, List.setIfInBounds_toArray, List.set_cons_succ, List.set_cons_zero]
      refine takeH (i := 19) (d := 32) (v := .pointer (some ⟨g, 0, none⟩)) rfl rfl (by kernel_rfl) (by kernel_rfl) (by kernel_rfl) (fun _ _ _ h => h) (Or.inl ⟨by kernel_rfl, by intro w hSw; (try dsimp only at hSw); obtain ⟨hSa, hSb, hSc, hSd⟩ := hSw; go_simp; try rfl⟩) (by assumption) ?_
      simp only [Act.put, List.setIfInBounds_toArray, List.set_cons_succ, List.set_cons_zero]
      refine takeH (i := 20) (d := 33) (v := .pointer (some ⟨g, 0, none⟩)) rfl rfl (by kernel_rfl) (by kernel_rfl) (by kernel_rfl) (fun _ _ _ h => h) (Or.inl ⟨by kernel_rfl, by intro w hSw; (try dsimp only at hSw); obtain ⟨hSa, hSb, hSc, hSd⟩ := hSw; go_simp; try rfl⟩) (by assumption) ?_
      simp only [Act.put, List.setIfInBounds_toArray, List.set_cons_succ, List.set_cons_zero]
      refine takeH (i := 21) (d := 34) (v := .string ⟨#[97]⟩) rfl rfl (by kernel_rfl) (by kernel_rfl) (by kernel_rfl) (fun _ _ _ h => h) (Or.inl ⟨by kernel_rfl, by intro w hSw; (try dsimp only at hSw); obtain ⟨hSa, hSb, hSc, hSd⟩ := hSw; go_simp; try rfl⟩) (by assumption) ?_
      simp only [Act.put, List.setIfInBounds_toArray, List.set_cons_succ, List.set_cons_zero]
      refine takeH (i := 22) (d := 35) (v := .bool false) rfl rfl (by kernel_rfl) (by kernel_rfl) (by kernel_rfl) (fun _ _ _ h => h) (Or.inl ⟨by kernel_rfl, by intro w hSw; (try dsimp only at hSw); obtain ⟨hSa, hSb, hSc, hSd⟩ := hSw; go_simp; try rfl⟩) (by assumption) ?_
      simp only [Act.put, List.setIfInBounds_toArray, List.set_cons_succ, List.set_cons_zero]
      refine takeH (i := 23) (d := 36) (v := .bool false) rfl rfl (by kernel_rfl) (by kernel_rfl) (by kernel_rfl) (fun _ _ _ h => h) (Or.inl ⟨by kernel_rfl, by intro w hSw; (try dsimp only at hSw); obtain ⟨hSa, hSb, hSc, hSd⟩ := hSw; go_simp; try rfl⟩) (by assumption) ?_
      simp only [Act.put, List.setIfInBounds_toArray, List.set_cons_succ, List.set_cons_zero]
      refine takeH (i := 24) (d := 37) (v := .bool false) rfl rfl (by kernel_rfl) (by kernel_rfl) (by kernel_rfl) (fun _ _ _ h => h) (Or.inl ⟨by kernel_rfl, by intro w hSw; (try dsimp only at hSw); obtain ⟨hSa, hSb, hSc, hSd⟩ := hSw; go_simp; try rfl⟩) (by assumption) ?_
      simp only [Act.put, List.setIfInBounds_toArray, List.set_cons_succ, List.set_cons_zero]
      refine wpAnyH_done (by kernel_rfl) ?_ _
      all_goals
        go_wp2_with fail
        go_roundw
        case rel => exact ⟨HA.out.drew, .inr (.inr ⟨rfl, rfl⟩)⟩
        case measure => simp [intOf]
    · go_wp2_with fail
      go_ret
      exact ⟨rfl, HB.out⟩
set_option maxRecDepth 100000 in
set_option maxHeartbeats 4000000 in
theorem sched_two {w : World} {g c : Nat} (h : Sl2 w g) (hc : 2 ≤ c) (hm : c ≤ maxLen) : Calls Try.prog 16 #[.slice (some ⟨g, 0, none⟩) 2 c, .int .i64 11] w fun e w' => e = .returned (.tuple #[.string ⟨#[97]⟩, .int .i64 2]) ∧ Below w.heap.size w w' := by
  have HL := Lib.hid (length_two h hc hm)
  have HT := Lib.hid h
  unfold maxLen at hm
  have hci : (2 : Int) ≤ (c : Int) := by omega
  clear h
  go_enter Try.func16, Try.ntmps16
  go_wp2_with fail
  refine HL.out.mono ?_
  rintro e w1 ⟨rfl, hb1⟩
  obtain ⟨c0, c1, c2, c3, c4, c5⟩ := HT.out.below HT.out.lt hb1
  have HB1 : Hid (Below w.heap.size w w1) := hb1
  clear hb1 HL
  go_wp2_with fail
  go_loopw [7] (fun iv wr => iv = .int .i64 0 ∧ wr = w1) (fun _ _ => 1)
  case atStart => exact ⟨rfl, rfl⟩
  case round =>
    obtain ⟨rfl, hw⟩ := hrel
    subst hw
    go_wp2_with fail
    go_region_held3 (fun w' => w'.cell? ⟨g, 0, none⟩ = some (.string ⟨#[97]⟩) ∧ w'.cell? ⟨g, 2, none⟩ = some (.int .i64 3)) (go_keep) (fail)
    all_goals
      go_wp2_with fail
      go_ret2
      exact ⟨rfl, HB1.out.drew⟩
set_option maxRecDepth 100000 in
set_option maxHeartbeats 4000000 in
theorem budget_a {w : World} {g c : Nat} (h : Sl2 w g) (hc : 2 ≤ c) (hm : c ≤ maxLen) : Calls Try.prog 19 #[.slice (some ⟨g, 0, none⟩) 2 c, .string ⟨#[97]⟩] w fun e w' => e = .returned (.int .i64 3) ∧ Below w.heap.size w w' := by
  unfold maxLen at hm
  have HT := Lib.hid h
  have hci : (2 : Int) ≤ (c : Int) := by omega
  clear h
  go_enter Try.func19, Try.ntmps19
  go_wp2_with fail
  go_loopw [5, 10] (fun ev iv wr => Hid (Below w.heap.size w wr) ∧ ((iv = .int .i64 0 ∧ ev = .int .i64 0) ∨ (iv = .int .i64 1 ∧ ev = .int .i64 3) ∨ (iv = .int .i64 2 ∧ ev = .int .i64 3))) (fun _ iv _ => 2 - (intOf iv).toNat)
  case atStart => exact ⟨Below.refl _ _, .inl ⟨rfl, rfl⟩⟩
  case round =>
    obtain ⟨HB, ⟨rfl, rfl⟩ | ⟨rfl, rfl⟩ | ⟨rfl, rfl⟩⟩ := hrel
    · obtain ⟨c0, c1, c2, c3, c4, c5⟩ := HT.out.below HT.out.lt HB.out
      go_wp2_with fail
      go_roundw
      case rel => exact ⟨HB.out.alloc HB.out.size _, .inr (.inl ⟨rfl, rfl⟩)⟩
      case measure => simp [intOf]
    · obtain ⟨c0, c1, c2, c3, c4, c5⟩ := HT.out.below HT.out.lt HB.out
      go_wp2_with fail
      go_roundw
      case rel => exact ⟨HB.out.alloc HB.out.size _, .inr (.inr ⟨rfl, rfl⟩)⟩
      case measure => simp [intOf]
    · go_wp2_with fail
      go_ret
      exact ⟨rfl, HB.out⟩
set_option maxRecDepth 100000 in
set_option maxHeartbeats 4000000 in
theorem budget_n {w : World} {g c : Nat} (h : Sl2 w g) (hc : 2 ≤ c) (hm : c ≤ maxLen) : Calls Try.prog 19 #[.slice (some ⟨g, 0, none⟩) 2 c, .string ⟨#[]⟩] w fun e w' => e = .returned (.int .i64 7) ∧ Below w.heap.size w w' := by
  unfold maxLen at hm
  have HT := Lib.hid h
  have hci : (2 : Int) ≤ (c : Int) := by omega
  clear h
  go_enter Try.func19, Try.ntmps19
  go_wp2_with fail
  go_loopw [5, 10] (fun ev iv wr => Hid (Below w.heap.size w wr) ∧ ((iv = .int .i64 0 ∧ ev = .int .i64 0) ∨ (iv = .int .i64 1 ∧ ev = .int .i64 0) ∨ (iv = .int .i64 2 ∧ ev = .int .i64 7))) (fun _ iv _ => 2 - (intOf iv).toNat)
  case atStart => exact ⟨Below.refl _ _, .inl ⟨rfl, rfl⟩⟩
  case round =>
    obtain ⟨HB, ⟨rfl, rfl⟩ | ⟨rfl, rfl⟩ | ⟨rfl, rfl⟩⟩ := hrel
    · obtain ⟨c0, c1, c2, c3, c4, c5⟩ := HT.out.below HT.out.lt HB.out
      go_wp2_with fail
      go_roundw
      case rel => exact ⟨HB.out.alloc HB.out.size _, .inr (.inl ⟨rfl, rfl⟩)⟩
      case measure => simp [intOf]
    · obtain ⟨c0, c1, c2, c3, c4, c5⟩ := HT.out.below HT.out.lt HB.out
      go_wp2_with fail
      go_roundw
      case rel => exact ⟨HB.out.alloc HB.out.size _, .inr (.inr ⟨rfl, rfl⟩)⟩
      case measure => simp [intOf]
    · go_wp2_with fail
      go_ret
      exact ⟨rfl, HB.out⟩
set_option maxRecDepth 100000 in
set_option maxHeartbeats 4000000 in
theorem share_n {w : World} {g c : Nat} (h : Sl2 w g) (hc : 2 ≤ c) (hm : c ≤ maxLen) : Calls Try.prog 20 #[.slice (some ⟨g, 0, none⟩) 2 c, .string ⟨#[]⟩] w fun e w' => e = .returned (.float .f64 4604480259023595110) ∧ Below w.heap.size w w' := by
  have HL := Lib.hid (length_two h hc hm)
  have HT := Lib.hid h
  have HBu := Lib.hid (fun W (hb : Below w.heap.size w W) => budget_n (HT.out.below HT.out.lt hb) hc hm)
  have hq : floatBits .quo .f64 (floatOfInt .f64 7) (floatOfInt .f64 10) = some 4604480259023595110 := by kernel_rfl
  have hr : ∀ W, (binOp .quo 61 (.float .f64 (floatOfInt .f64 7)) (.float .f64 (floatOfInt .f64 10))).run Try.prog W = .ok (.float .f64 4604480259023595110) W := fun W => run_float_arith W .quo 61 .f64 _ _ _ hq
  clear h
  go_enter Try.func20, Try.ntmps20
  go_wp2_with fail
  refine HL.out.mono ?_
  rintro e w1 ⟨rfl, hb1⟩
  have HB1 : Hid (Below w.heap.size w w1) := hb1
  clear hb1 HL
  go_wp2_with fail
  refine (HBu.out _ HB1.out).mono ?_
  rintro e w2 ⟨rfl, hb2⟩
  have HB2 : Hid (Below w.heap.size w w2) := HB1.out.trans (hb2.mono HB1.out.size)
  clear hb2
  go_wp2_with fail
  go_ret
  exact ⟨rfl, HB2.out⟩
end Go.Proofs.Ytkhlkbgolonkkaa
