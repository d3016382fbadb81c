/- SyntaxPlaces: the law. Own work. -/
import Derived.Test.YtljccjnjbpapmaaGreatDoorSyKnown
import Derived.Test.YtljccjnjbpapmaaGreatDoorSpTake
import Derived.Deep.DeepCutAuto
import Derived.Deep.CutBlock
namespace Go.Proofs.YtljccjnjbpapmaaGreatDoor
open Go.RowKit Sc
theorem placeV_form (l : List Nat) (a : Nat) : ∃ x y z : Int, Sy.placeV l a = .agg #[.int .i64 x, .int .i64 y, .int .i64 z] := ⟨_, _, _, rfl⟩
def zsP : List Nat := [97, 10, 10, 98, 99]
set_option maxRecDepth 100000 in
set_option maxHeartbeats 4000000 in
theorem syntaxPlaces_any {w : World} {v : Value} {zs : List Nat} {x : Int} (ht : Tabs w) (h9 : 4 ≤ w.heap.size) (hs : Sl w v zs) (hl : zs.length ≤ 140737488355328) :
    Calls Tryz.prog 4 #[v, .int .i64 x] w fun e w' => e = .returned (.bool true) ∧ Below w.heap.size w w' := by
  have HT : Hid (Tabs w) := ht
  have HS : Hid (Sl w v zs) := hs
  clear ht
  obtain ⟨a1, c1, rfl, _⟩ := hs
  go_enter Tryz.func4, Tryz.ntmps4
  go_wp2_with fail
  refine (at_any HS.out hl).mono ?_
  rintro e w1 ⟨rfl, hb1⟩
  have HB1 := Lib.hid hb1
  clear hb1
  obtain ⟨px, py, pz, hp⟩ := placeV_form zs (Sy.clampN x zs.length)
  have HPv := Lib.hid hp
  rw [hp]
  clear hp
  obtain ⟨W1, hW1⟩ : ∃ W1, w1.alloc (.cells #[.int .i64 px, .int .i64 py, .int .i64 pz] 30) = W1 := ⟨_, rfl⟩
  have HP1 : Hid (W1.heap[w1.heap.size]? = some (.cells #[.int .i64 px, .int .i64 py, .int .i64 pz] 30 (0, 0))) := hW1 ▸ heap_alloc_new w1 _
  have HBw : Hid (Below w.heap.size w W1) := hW1 ▸ HB1.out.alloc HB1.out.size _
  have HZ1 : Hid (w1.heap.size + 1 = W1.heap.size) := show _ = _ by rw [← hW1]; simp
  have hcv := convert_lit W1 zsP #[.int .u8 97, .int .u8 10, .int .u8 10, .int .u8 98, .int .u8 99] rfl
  have hb2 : Below W1.heap.size W1 (W1.alloc (.cells #[.int .u8 97, .int .u8 10, .int .u8 10, .int .u8 98, .int .u8 99] 5 (5, 6))) := (Below.refl _ _).alloc (Nat.le_refl _) _
  have hA := at_any (x := 4) (sl_lit W1 zsP (5, 6) (by decide) (by decide)) (by decide)
  have HB2 := Lib.hid hb2
  have HA := Lib.hid hA
  simp only [zsP, List.length_cons, List.length_nil] at hcv
  clear hb2 hA
  go_wp2_with fail
  refine HA.out.mono ?_
  rintro e w2 ⟨rfl, hb2⟩
  rw [show Sy.placeV zsP (Sy.clampN 4 zsP.length) = .agg #[.int .i64 4, .int .i64 3, .int .i64 2] by kernel_rfl]
  have HB3 : Hid (Below W1.heap.size W1 w2) := HB2.out.trans (hb2.mono HB2.out.size)
  clear hcv HA hb2 hW1
  go_upto_region 3 with fail
  obtain ⟨W2, hW2⟩ : ∃ W2, w2.alloc (.cells #[.int .i64 4, .int .i64 3, .int .i64 2] 30) = W2 := ⟨_, rfl⟩
  have HP2 : Hid (W2.heap[w2.heap.size]? = some (.cells #[.int .i64 4, .int .i64 3, .int .i64 2] 30 (0, 0))) := hW2 ▸ heap_alloc_new w2 _
  have HB4 : Hid (Below W1.heap.size W1 W2) := hW2 ▸ HB3.out.alloc HB3.out.size _
  have HZ2 : Hid (w2.heap.size + 1 = W2.heap.size) := show _ = _ by rw [← hW2]; simp
  have HB5 : Hid (Below w.heap.size w W2) := HBw.out.trans (HB4.out.mono HBw.out.size)
  rw [hW2]
  clear hW2
  have HF : Hid (∀ W', Below W2.heap.size W2 W' → (W'.cell? ⟨w1.heap.size, 0, none⟩ = some (.int .i64 px) ∧ W'.cell? ⟨w1.heap.size, 1, none⟩ = some (.int .i64 py) ∧ W'.cell? ⟨w1.heap.size, 2, none⟩ = some (.int .i64 pz)) ∧ W'.cell? ⟨w2.heap.size, 0, none⟩ = some (.int .i64 4) ∧ W'.cell? ⟨w2.heap.size, 1, none⟩ = some (.int .i64 3) ∧ W'.cell? ⟨w2.heap.size, 2, none⟩ = some (.int .i64 2)) := fun W' h => by
    have z1 := HZ1.out
    have z2 := HZ2.out
    have z3 := HB4.out.size
    have r1 := below_at h (by omega) (below_at HB4.out (by omega) HP1.out)
    have r2 := below_at h (by omega) HP2.out
    exact ⟨⟨cell_of_row _ _ 0 _ _ _ r1, cell_of_row _ _ 1 _ _ _ r1, cell_of_row _ _ 2 _ _ _ r1⟩, cell_of_row _ _ 0 _ _ _ r2, cell_of_row _ _ 1 _ _ _ r2, cell_of_row _ _ 2 _ _ _ r2⟩
  have HEa : Hid (Enters Tryz.prog 8) := enters_of Tryz.func8 (by kernel_rfl) rfl
  have HEk : Hid (Enters Tryz.prog 6) := enters_of Tryz.func6 (by kernel_rfl) rfl
  have HCa : Hid (Calls Tryz.prog 8 #[.slice a1 zs.length c1, .int .i64 x] W2.drew fun e w' => ∃ u, e = .returned u ∧ u = .agg #[.int .i64 px, .int .i64 py, .int .i64 pz] ∧ Below W2.heap.size W2 w') := by
    refine (rAt_any ((HS.out.below HB5.out).below (Below.refl _ _).drew) hl).mono ?_
    rintro e w' ⟨rfl, h⟩
    exact ⟨_, rfl, HPv.out, (Below.refl _ _).drew.trans h⟩
  have HCk : Hid (∀ W', Below W2.heap.size W2 W' → Calls Tryz.prog 6 #[] W' fun e w' => ∃ u, e = .returned u ∧ u = .bool true ∧ Below W2.heap.size W2 w') := fun W' h =>
    (known6_any ((HT.out.below HB5.out).below h) (Nat.le_trans h9 (Nat.le_trans HB5.out.size h.size))).mono fun e w' k => ⟨_, k.1, rfl, h.trans (k.2.mono h.size)⟩
  refine wp_region_held_drew (S := fun w' => (w'.cell? ⟨w1.heap.size, 0, none⟩ = some (.int .i64 px) ∧ w'.cell? ⟨w1.heap.size, 1, none⟩ = some (.int .i64 py) ∧ w'.cell? ⟨w1.heap.size, 2, none⟩ = some (.int .i64 pz)) ∧ w'.cell? ⟨w2.heap.size, 0, none⟩ = some (.int .i64 4) ∧ w'.cell? ⟨w2.heap.size, 1, none⟩ = some (.int .i64 3) ∧ w'.cell? ⟨w2.heap.size, 2, none⟩ = some (.int .i64 2)) (by kernel_rfl) (HF.out _ (Below.refl _ _).drew) (fun hHeld => ?_)
  simp only [List.size_toArray, List.length_cons, List.length_nil]
  refine takeH (i := 0) (d := 13) (v := .agg #[.int .i64 px, .int .i64 py, .int .i64 pz]) rfl rfl (by kernel_rfl) (by kernel_rfl) (by kernel_rfl) (fun _ _ _ h => h) (Or.inl ⟨by kernel_rfl, by intro w hSw; (try dsimp only at hSw); obtain ⟨⟨s1, s2, s3⟩, s4, s5, s6⟩ := hSw; go_simp⟩) (by assumption) ?_
  refine takeH (i := 1) (d := 14) (v := .slice a1 zs.length c1) rfl rfl (by kernel_rfl) (by kernel_rfl) (by kernel_rfl) (fun _ _ _ h => h) (Or.inl ⟨by kernel_rfl, by intro w hSw; (try dsimp only at hSw); obtain ⟨⟨s1, s2, s3⟩, s4, s5, s6⟩ := hSw; go_simp⟩) (by assumption) ?_
  refine takeH (i := 2) (d := 15) (v := .int .i64 x) rfl rfl (by kernel_rfl) (by kernel_rfl) (by kernel_rfl) (fun _ _ _ h => h) (Or.inl ⟨by kernel_rfl, by intro w hSw; (try dsimp only at hSw); obtain ⟨⟨s1, s2, s3⟩, s4, s5, s6⟩ := hSw; go_simp⟩) (by assumption) ?_
  refine wpAnyH_ready (rs := [3]) (by kernel_rfl) (by simp) ?_
  refine readyCall (i := 3) (d := 16) rfl rfl (by kernel_rfl) 8 #[.tmp 14, .tmp 15] #[34, 3] rfl HEa.out #[.slice a1 zs.length c1, .int .i64 x] (by simp [Act.eval, Act.put]) HCa.out (fun u w' ⟨_, h⟩ => HF.out _ h) ?_ AllReadyH.nil
  rintro u w6 ⟨rfl, hb6⟩ hHeld6
  refine takeH (i := 4) (d := 17) (v := .bool true) rfl rfl (by kernel_rfl) (by kernel_rfl) (by kernel_rfl) (fun _ _ _ h => h) (Or.inl ⟨by kernel_rfl, by intro w hSw; (try dsimp only at hSw); obtain ⟨⟨s1, s2, s3⟩, s4, s5, s6⟩ := hSw; go_simp⟩) (by assumption) ?_
  refine takeH (i := 5) (d := 18) (v := .bool true) rfl rfl (by kernel_rfl) (by kernel_rfl) (by kernel_rfl) (fun _ _ _ h => h) (Or.inl ⟨by kernel_rfl, by intro w hSw; (try dsimp only at hSw); obtain ⟨⟨s1, s2, s3⟩, s4, s5, s6⟩ := hSw; go_simp⟩) (by assumption) ?_
  refine takeH (i := 6) (d := 19) (v := .agg #[.int .i64 4, .int .i64 3, .int .i64 2]) rfl rfl (by kernel_rfl) (by kernel_rfl) (by kernel_rfl) (fun _ _ _ h => h) (Or.inl ⟨by kernel_rfl, by intro w hSw; (try dsimp only at hSw); obtain ⟨⟨s1, s2, s3⟩, s4, s5, s6⟩ := hSw; go_simp⟩) (by assumption) ?_
  refine takeH (i := 7) (d := 20) (v := .agg #[.int .i64 4, .int .i64 3, .int .i64 2]) rfl rfl (by kernel_rfl) (by kernel_rfl) (by kernel_rfl) (fun _ _ _ h => h) (Or.inl ⟨by kernel_rfl, by intro w hSw; (try dsimp only at hSw); obtain ⟨⟨s1, s2, s3⟩, s4, s5, s6⟩ := hSw; go_simp⟩) (by assumption) ?_
  refine takeH (i := 8) (d := 21) (v := .bool true) rfl rfl (by kernel_rfl) (by kernel_rfl) (by kernel_rfl) (fun _ _ _ h => h) (Or.inl ⟨by kernel_rfl, by intro w hSw; (try dsimp only at hSw); obtain ⟨⟨s1, s2, s3⟩, s4, s5, s6⟩ := hSw; go_simp⟩) (by assumption) ?_
  refine takeH (i := 9) (d := 22) (v := .bool true) rfl rfl (by kernel_rfl) (by kernel_rfl) (by kernel_rfl) (fun _ _ _ h => h) (Or.inl ⟨by kernel_rfl, by intro w hSw; (try dsimp only at hSw); obtain ⟨⟨s1, s2, s3⟩, s4, s5, s6⟩ := hSw; go_simp⟩) (by assumption) ?_
  refine takeH (i := 10) (d := 23) (v := .bool true) rfl rfl (by kernel_rfl) (by kernel_rfl) (by kernel_rfl) (fun _ _ _ h => h) (Or.inl ⟨by kernel_rfl, by intro w hSw; (try dsimp only at hSw); obtain ⟨⟨s1, s2, s3⟩, s4, s5, s6⟩ := hSw; go_simp⟩) (by assumption) ?_
  refine wpAnyH_ready (rs := [11]) (by kernel_rfl) (by simp) ?_
  refine readyCall (i := 11) (d := 24) rfl rfl (by kernel_rfl) 6 #[] #[] rfl HEk.out #[] (by simp) (HCk.out _ hb6) (fun u w' ⟨_, h⟩ => HF.out _ h) ?_ AllReadyH.nil
  rintro u w7 ⟨rfl, hb7⟩ hHeld7
  refine takeH (i := 12) (d := 25) (v := .bool true) rfl rfl (by kernel_rfl) (by kernel_rfl) (by kernel_rfl) (fun _ _ _ h => h) (Or.inl ⟨by kernel_rfl, by intro w hSw; (try dsimp only at hSw); obtain ⟨⟨s1, s2, s3⟩, s4, s5, s6⟩ := hSw; go_simp⟩) (by assumption) ?_
  refine takeH (i := 13) (d := 4) (v := .bool true) rfl rfl (by kernel_rfl) (by kernel_rfl) (by kernel_rfl) (fun _ _ _ h => h) (Or.inl ⟨by kernel_rfl, by intro w hSw; (try dsimp only at hSw); obtain ⟨⟨s1, s2, s3⟩, s4, s5, s6⟩ := hSw; go_simp⟩) (by assumption) ?_
  refine wpAnyH_done (by kernel_rfl) ?_ _
  simp only [Act.put, List.setIfInBounds_toArray, List.set_cons_succ, List.set_cons_zero]
  go_wp2_with fail
  go_ret
  exact ⟨rfl, HB5.out.trans (hb7.mono HB5.out.size)⟩
end Go.Proofs.YtljccjnjbpapmaaGreatDoor
