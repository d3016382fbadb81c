/- What recovers a refusal (written by parts/gen_sycatch.py). Own work. -/
import Derived.Test.YtmkibolkcjallaaGreatDoorSyParA
import Derived.Test.YtmkibolkcjallaaGreatDoorSpTake
namespace Go.Proofs.YtmkibolkcjallaaGreatDoor
open Go.RowKit Sc
def treeZ : Array Value := #[.int .i64 0, .string ⟨#[]⟩, .int .i64 0, .slice none 0 0, .slice none 0 0, .slice none 0 0, .slice none 0 0]
theorem build_tree (w : World) : (Instr.build 28 #[]).run Tryz.prog w = .ok (.agg treeZ) w := by kernel_rfl
theorem build_exec {o : Oper} {a : Act} {w : World} (ho : o.op = .build 28 #[]) : (execOp a.eval o).run Tryz.prog w = .ok (.value (.agg treeZ)) w := by
  unfold execOp
  simp only [ho, List.map_toArray, List.map_nil, Sem.run_bind, Sem.run_pure, build_tree, Result.andThen_ok]
theorem storeRow_exec {o : Oper} {a : Act} {w : World} {x y : Operand} {t : TypeId} {b : Nat} {c c' : Array Value} (ho : o.op = .store t x y) (hx : a.eval x = .pointer (some ⟨b, 0, none⟩)) (hy : a.eval y = .agg c') (hh : w.heap[b]? = some (.cells c t (0, 0))) (hi : (Tryz.prog.info? t).map (·.size) = some c'.size) (hs : c.size = c'.size) (h1 : c'.all (·.oneCell') = true) : (execOp a.eval o).run Tryz.prog w = .ok .skip (w.setRow b c') := by
  have hr := run_storeVar_row (P := Tryz.prog) w b t t c c' hh hi hs h1
  unfold execOp
  simp only [ho, hx, hy, Instr.storeAt, Instr.sureAddr, Sem.run_bind, Sem.run_pure, Result.andThen_ok, hr]
theorem row_cell {w : World} {b c i : Nat} (hc : b ≠ c) (d : Array Value) : (w.setRow c d).cell? ⟨b, i, none⟩ = w.cell? ⟨b, i, none⟩ := World.cell?_of_block (a := ⟨b, i, none⟩) (setRow_heap hc d)
set_option maxRecDepth 100000 in
set_option maxHeartbeats 4000000 in
theorem catch_panicking {h pb : Nat} {t : TypeId} {pv : Value} {w : World} {va : Option Addr} {vn vc : Nat} {zs : List Nat} {par : Par} {x y : Int} (hb : Bx h w (.slice va vn vc)) (hs : Sl w (.slice va vn vc) zs) (hl : zs.length ≤ 140737488355328) (hp : ParB w pb par) (hx : par.wrong = x) (hy : par.why = y) (hpb : h + 4 ≤ pb) :
    CallsD Tryz.prog 10 #[.pointer (some ⟨h, 0, none⟩), .pointer (some ⟨pb, 0, none⟩), .pointer (some ⟨h + 1, 0, none⟩), .pointer (some ⟨h + 1 + 1, 0, none⟩), .pointer (some ⟨h + 1 + 1 + 1, 0, none⟩)] (.panicking [{ v := .iface t pv, recovered := false }]) w fun e u' w' =>
      e = .returned (.tuple #[]) ∧ u' = .panicking [{ v := .iface t pv, recovered := true }] ∧ w'.heap[h + 1]? = some (.cells treeZ 28 (0, 0)) ∧ (∃ c, Sy.placeV zs (Sy.clampN x zs.length) = .agg c ∧ w'.heap[h + 1 + 1]? = some (.cells c 30 (0, 0))) ∧ w'.cell? ⟨h + 1 + 1 + 1, 0, none⟩ = some (.int .i64 y) ∧ Below h w w' := by
  have HA : Hid (∀ W, Below w.heap.size w W → Calls Tryz.prog 7 #[.slice va vn vc, .int .i64 x] W fun e w' => ∃ u, e = .returned u ∧ u = Sy.placeV zs (Sy.clampN x zs.length) ∧ Below W.heap.size W w') := fun W hW => (at_any (hs.below hW) hl).mono fun e w' k => ⟨_, k.1, rfl, k.2⟩
  have HEa : Hid (Enters Tryz.prog 7) := enters_of Tryz.func7 (by kernel_rfl) rfl
  have HBx := Lib.hid hb
  have HPb : Hid (∀ W, Below w.heap.size w W → (W.cell? ⟨h, 0, none⟩ = some (.slice va vn vc) ∧ W.cell? ⟨pb, 12, none⟩ = some (.int .i64 x)) ∧ W.cell? ⟨pb, 13, none⟩ = some (.int .i64 y)) := fun W hW => by
    have h1 := hp.below hW
    have h2 := hb.below hW
    exact ⟨⟨box_cell h2.src, hx ▸ h1.cell 12 rfl⟩, hy ▸ h1.cell 13 rfl⟩
  refine callsD_of_wpS Tryz.func10 rfl fun c₀ cs hu => ?_
  clear hp hx hy hb hs hl
  apply wpS_seq
  apply wpS_region
  simp [wpOpsS, go_sem, recoverD, hu, Tryz.ntmps10, Exit.thenS]
  refine wpS_cond (t := true) (by simp [Act.eval, Array.replicate]) ?_
  simp only [if_true]
  refine wpS_of_wp ?_
  simp only [Array.replicate, List.replicate, List.setIfInBounds_toArray, List.set_cons_succ, List.set_cons_zero, List.append_toArray, List.cons_append, List.nil_append]
  refine wp_region_held_drew (S := fun w' => (w'.cell? ⟨h, 0, none⟩ = some (.slice va vn vc) ∧ w'.cell? ⟨pb, 12, none⟩ = some (.int .i64 x)) ∧ w'.cell? ⟨pb, 13, none⟩ = some (.int .i64 y)) (by kernel_rfl) (HPb.out _ (Below.refl _ _).drew) (fun hHeld => ?_)
  simp only [List.size_toArray, List.length_cons, List.length_nil]
  refine takeH (i := 0) (d := 7) (v := .agg treeZ) rfl rfl (by kernel_rfl) (by kernel_rfl) (by kernel_rfl) (fun _ _ _ h => h) (Or.inl ⟨by kernel_rfl, fun w' hSw => build_exec rfl⟩) (by assumption) ?_
  refine takeH (i := 1) (d := 8) (v := .slice va vn vc) rfl rfl (by kernel_rfl) (by kernel_rfl) (by kernel_rfl) (fun _ _ _ h => h) (Or.inl ⟨by kernel_rfl, by intro w hSw; (try dsimp only at hSw); obtain ⟨⟨hSa, hSb⟩, hSc⟩ := hSw; go_simp⟩) (by assumption) ?_
  refine takeH (i := 2) (d := 9) (v := .pointer (some ⟨pb, 0, none⟩)) rfl rfl (by kernel_rfl) (by kernel_rfl) (by kernel_rfl) (fun _ _ _ h => h) (Or.inl ⟨by kernel_rfl, by intro w hSw; (try dsimp only at hSw); obtain ⟨⟨hSa, hSb⟩, hSc⟩ := hSw; go_simp⟩) (by assumption) ?_
  refine takeH (i := 3) (d := 10) (v := .pointer (some ⟨pb, 12, none⟩)) rfl rfl (by kernel_rfl) (by kernel_rfl) (by kernel_rfl) (fun _ _ _ h => h) (Or.inl ⟨by kernel_rfl, by intro w hSw; (try dsimp only at hSw); obtain ⟨⟨hSa, hSb⟩, hSc⟩ := hSw; go_simp⟩) (by assumption) ?_
  refine takeH (i := 4) (d := 11) (v := .int .i64 x) rfl rfl (by kernel_rfl) (by kernel_rfl) (by kernel_rfl) (fun _ _ _ h => h) (Or.inl ⟨by kernel_rfl, by intro w hSw; (try dsimp only at hSw); obtain ⟨⟨hSa, hSb⟩, hSc⟩ := hSw; go_simp⟩) (by assumption) ?_
  refine takeH (i := 6) (d := 13) (v := .pointer (some ⟨pb, 0, none⟩)) rfl rfl (by kernel_rfl) (by kernel_rfl) (by kernel_rfl) (fun _ _ _ h => h) (Or.inl ⟨by kernel_rfl, by intro w hSw; (try dsimp only at hSw); obtain ⟨⟨hSa, hSb⟩, hSc⟩ := hSw; go_simp⟩) (by assumption) ?_
  refine takeH (i := 7) (d := 14) (v := .pointer (some ⟨pb, 13, none⟩)) rfl rfl (by kernel_rfl) (by kernel_rfl) (by kernel_rfl) (fun _ _ _ h => h) (Or.inl ⟨by kernel_rfl, by intro w hSw; (try dsimp only at hSw); obtain ⟨⟨hSa, hSb⟩, hSc⟩ := hSw; go_simp⟩) (by assumption) ?_
  refine takeH (i := 8) (d := 15) (v := .int .i64 y) rfl rfl (by kernel_rfl) (by kernel_rfl) (by kernel_rfl) (fun _ _ _ h => h) (Or.inl ⟨by kernel_rfl, by intro w hSw; (try dsimp only at hSw); obtain ⟨⟨hSa, hSb⟩, hSc⟩ := hSw; go_simp⟩) (by assumption) ?_
  refine wpAnyH_ready (rs := [5]) (by kernel_rfl) (by simp) ?_
  refine readyCall (i := 5) (d := 12) rfl rfl (by kernel_rfl) 7 #[.tmp 8, .tmp 11] #[34, 3] rfl HEa.out #[.slice va vn vc, .int .i64 x] (by simp [Act.eval, Act.put]) (HA.out _ (Below.refl _ _).drew) (fun u w' ⟨_, k⟩ => HPb.out _ ((Below.refl _ _).drew.trans k)) ?_ AllReadyH.nil
  rintro u w5 ⟨rfl, hb5⟩ hHeld5
  have HX5 : Hid (Bx h w5 (.slice va vn vc)) := HBx.out.below ((Below.refl _ _).drew.trans hb5)
  have HB5 : Hid (Below w.heap.size w w5) := (Below.refl _ _).drew.trans hb5
  refine wpAnyH_ready (rs := [9]) (by kernel_rfl) (by simp) ?_
  refine readySkip (i := 9) (w' := w5.setRow (h + 1) treeZ) rfl rfl (by kernel_rfl) (storeRow_exec (x := .tmp 2) (y := .tmp 7) rfl (by simp [Act.eval, Act.put]) (by simp [Act.eval, Act.put]) HX5.out.tree (by kernel_rfl) rfl (by kernel_rfl)) ⟨⟨(row_cell (by omega) _).trans hHeld5.1.1, (row_cell (by omega) _).trans hHeld5.1.2⟩, (row_cell (by omega) _).trans hHeld5.2⟩ ?_ AllReadyH.nil
  obtain ⟨x1, x2, x3, hpl⟩ : ∃ x1 x2 x3 : Int, Sy.placeV zs (Sy.clampN x zs.length) = .agg #[.int .i64 x1, .int .i64 x2, .int .i64 x3] := ⟨_, _, _, rfl⟩
  have HX6 : Hid ((w5.setRow (h + 1) treeZ).heap[h + 1 + 1]? = some (.cells #[.int .i64 0, .int .i64 0, .int .i64 0] 30 (0, 0))) := (setRow_heap (by omega) _).trans HX5.out.place
  refine wpAnyH_ready (rs := [10]) (by kernel_rfl) (by simp) ?_
  refine readySkip (i := 10) (w' := (w5.setRow (h + 1) treeZ).setRow (h + 1 + 1) #[.int .i64 x1, .int .i64 x2, .int .i64 x3]) rfl rfl (by kernel_rfl) (storeRow_exec (x := .tmp 3) (y := .tmp 12) rfl (by simp [Act.eval, Act.put]) (by simp [Act.eval, Act.put, hpl]) HX6.out (by kernel_rfl) rfl (by kernel_rfl)) ⟨⟨(row_cell (by omega) _).trans ((row_cell (by omega) _).trans hHeld5.1.1), (row_cell (by omega) _).trans ((row_cell (by omega) _).trans hHeld5.1.2)⟩, (row_cell (by omega) _).trans ((row_cell (by omega) _).trans hHeld5.2)⟩ ?_ AllReadyH.nil
  have hx7 : ((w5.setRow (h + 1) treeZ).setRow (h + 1 + 1) #[.int .i64 x1, .int .i64 x2, .int .i64 x3]).heap[h + 1 + 1 + 1]? = some (.cells #[.int .i64 0] 31 (0, 0)) := (setRow_heap (by omega) _).trans ((setRow_heap (by omega) _).trans HX5.out.why)
  obtain ⟨W7, hW7⟩ : ∃ W7, (w5.setRow (h + 1) treeZ).setRow (h + 1 + 1) #[.int .i64 x1, .int .i64 x2, .int .i64 x3] = W7 := ⟨_, rfl⟩
  have HS7 : Hid ((W7.cell? ⟨h, 0, none⟩ = some (.slice va vn vc) ∧ W7.cell? ⟨pb, 12, none⟩ = some (.int .i64 x)) ∧ W7.cell? ⟨pb, 13, none⟩ = some (.int .i64 y)) := hW7 ▸ ⟨⟨(row_cell (by omega) _).trans ((row_cell (by omega) _).trans hHeld5.1.1), (row_cell (by omega) _).trans ((row_cell (by omega) _).trans hHeld5.1.2)⟩, (row_cell (by omega) _).trans ((row_cell (by omega) _).trans hHeld5.2)⟩
  have HT7 : Hid (W7.heap[h + 1]? = some (.cells treeZ 28 (0, 0))) := hW7 ▸ (setRow_heap (by omega) _).trans (setRow_same HX5.out.tree)
  have HP7 : Hid (W7.heap[h + 1 + 1]? = some (.cells #[.int .i64 x1, .int .i64 x2, .int .i64 x3] 30 (0, 0))) := hW7 ▸ setRow_same HX6.out
  have HB7 : Hid (Below h w W7) := hW7 ▸ below_setRow (below_setRow (HB5.out.mono (Nat.le_of_lt (Nat.lt_trans (by omega) (Array.getElem?_eq_some_iff.1 HBx.out.tree).1))) (by omega) _) (by omega) _
  rw [hW7] at hx7 ⊢
  have c7 := box_cell hx7
  have z7 : W7.frozen? ⟨h + 1 + 1 + 1, 0, none⟩ = false := by simp [World.frozen?, hx7]
  refine wpAnyH_ready (rs := [11]) (by kernel_rfl) (by simp) ?_
  refine readySkip (i := 11) (w' := W7.setCell ⟨h + 1 + 1 + 1, 0, none⟩ (.int .i64 y)) rfl rfl (by kernel_rfl) (by go_simp) ⟨⟨(World.cell?_of_block (a := ⟨h, 0, none⟩) (Below.heap_setCell _ _ _ _ (by show h ≠ h + 1 + 1 + 1; omega))).trans HS7.out.1.1, (World.cell?_of_block (a := ⟨pb, 12, none⟩) (Below.heap_setCell _ _ _ _ (by show pb ≠ h + 1 + 1 + 1; omega))).trans HS7.out.1.2⟩, (World.cell?_of_block (a := ⟨pb, 13, none⟩) (Below.heap_setCell _ _ _ _ (by show pb ≠ h + 1 + 1 + 1; omega))).trans HS7.out.2⟩ ?_ AllReadyH.nil
  refine wpAnyH_done (by kernel_rfl) ?_ _
  have hT : (W7.setCell ⟨h + 1 + 1 + 1, 0, none⟩ (.int .i64 y)).heap[h + 1]? = some (.cells treeZ 28 (0, 0)) := (Below.heap_setCell _ _ _ _ (by show h + 1 ≠ h + 1 + 1 + 1; omega)).trans HT7.out
  have hP : (W7.setCell ⟨h + 1 + 1 + 1, 0, none⟩ (.int .i64 y)).heap[h + 1 + 1]? = some (.cells #[.int .i64 x1, .int .i64 x2, .int .i64 x3] 30 (0, 0)) := (Below.heap_setCell _ _ _ _ (by show h + 1 + 1 ≠ h + 1 + 1 + 1; omega)).trans HP7.out
  have hC : (W7.setCell ⟨h + 1 + 1 + 1, 0, none⟩ (.int .i64 y)).cell? ⟨h + 1 + 1 + 1, 0, none⟩ = some (.int .i64 y) := World.cell?_setCell_same' _ ⟨h + 1 + 1 + 1, 0, none⟩ _ (by rw [c7]; rfl)
  have hB : Below h w (W7.setCell ⟨h + 1 + 1 + 1, 0, none⟩ (.int .i64 y)) := HB7.out.setCell (p := ⟨h + 1 + 1 + 1, 0, none⟩) (by show h ≤ h + 1 + 1 + 1; omega) _
  exact ⟨rfl, _, rfl, _, results_none rfl _ _ _, rfl, rfl, hT, ⟨_, hpl, hP⟩, hC, hB⟩
end Go.Proofs.YtmkibolkcjallaaGreatDoor
