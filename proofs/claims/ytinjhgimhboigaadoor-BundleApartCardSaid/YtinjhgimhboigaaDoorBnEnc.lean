/- Bundle: Encode. Own work. -/
import Derived.Test.YtinjhgimhboigaaDoorBnHd
namespace Go.Proofs.YtinjhgimhboigaaDoor
open Go.RowKit Bn
set_option linter.unusedVariables false
set_option linter.unusedSimpArgs false
/-- one of the operations that may come next: a value is made, the world changes -/
theorem readyValW {P : Program} {md : Region.Mode} {ops : Array Oper} {Q : Exit → Act → World → Prop} {S : World → Prop} {i d : Nat} {o : Oper} {fuel : Nat} {listed : Array Bool} {a : Act} {w w' : World} {rs : List Nat} (hi : ops[i]? = some o) (hd : o.dst = some d) (hw : Region.wanted o (yielded ops a.tmps) = true) (v : Value) (hv : (execOp a.eval o).run P w = .ok (.value v) w') (hS : S w')
    (hK : wpAnyH P md ops Q S fuel (listed.setIfInBounds i true) (a.put (some d) v) w') (hs : AllReadyH P md ops Q S fuel listed a w rs) : AllReadyH P md ops Q S fuel listed a w (i :: rs) := by
  rw [← hd] at hK
  refine AllReadyH.cons hi (fun K hK' => ?_) hs
  rw [if_pos hw]
  unfold Oper.wp
  rw [hv, Oper.upon_value]
  exact hK'.out _ _ hS (fun _ => hK)
theorem load_arr_run {oo : Oper} {a : Act} {w : World} (ty : TypeId) {x : Operand} (ho : oo.op = .load ty x) {b : Nat} {g : Array Value} {d : TypeDesc} (hx : a.eval x = .pointer (some ⟨b, 0, none⟩)) (h : w.heap[b]? = some (.cells g ty (0, 0))) (hu : Tryd.prog.underlying ty = some d) (hd : d.isRow = true) (hz : (Tryd.prog.info? ty).map (·.size) = some g.size) : (execOp a.eval oo).run Tryd.prog w = .ok (.value (.agg g)) w := by
  have hr : (Instr.loadAt ty (.pointer (some ⟨b, 0, none⟩))).run Tryd.prog w = .ok (.agg g) w := by
    have := run_loadAt_mid (P := Tryd.prog) w b 0 ty g.toList d (fun j v hv => by
      rw [Nat.zero_add, cell_of_row _ _ _ _ _ _ h, ← Array.getElem?_toList]
      exact hv) hu hd (by rw [Array.length_toList]; exact hz)
    simpa using this
  unfold execOp
  simp only [ho, hx, Sem.run_bind, Sem.run_pure, Result.andThen_ok, hr]
theorem build_run {oo : Oper} {a : Act} {w : World} (ty : TypeId) {parts : Array (Nat × Operand)} (ho : oo.op = .build ty parts) {vals : Array (Nat × Value)} (hv : (parts.map fun (i, x) => (i, a.eval x)) = vals) {V : Value} (hr : (Instr.build ty vals).run Tryd.prog w = .ok V w) : (execOp a.eval oo).run Tryd.prog w = .ok (.value V) w := by
  unfold execOp
  simp only [ho, Sem.run_bind, Sem.run_pure, Result.andThen_ok, hv, hr]
theorem size_why (I : Im) (h : (sizeF I).2 = 0) : (stN I 9).2 = 0 ∧ (stN I 9).1.length ≤ 4198399 := by
  unfold sizeF at h
  by_cases h1 : (stN I 9).2 = 0
  · rw [if_neg (fun e => e h1)] at h
    by_cases h2 : 1024 < (stN I 9).1.length / 4096
    · rw [if_pos h2] at h; simp at h
    · exact ⟨h1, by omega⟩
  · rw [if_pos h1] at h
    exact absurd h h1
set_option maxRecDepth 100000 in
set_option maxHeartbeats 8000000 in
theorem encodeX {w : World} {im : List Value} {I : Im} (h : ImA w im I) (ht : Tab w) (hs : szI I ≤ 20000000000) : Calls Tryd.prog 5 #[.agg im.toArray] w fun e w' => (((sizeF I).2 ≠ 0 ∧ e = .returned (.tuple #[.slice none 0 0, .int .i64 (sizeF I).2])) ∨ ((sizeF I).2 = 0 ∧ ∃ g, e = .returned (.tuple #[.slice (some ⟨g, 0, none⟩) (encF I).length (encF I).length, .int .i64 0]) ∧ w.heap.size ≤ g ∧ Row w' g (encF I))) ∧ Below w.heap.size w w' := by
  have hlen := h.len
  have HZ0 : Hid ((w.alloc (.cells im.toArray 33)).heap[w.heap.size]? = some (.cells im.toArray 33 (0, 0))) := heap_alloc_new w _
  have hb1 : Below w.heap.size w (w.alloc (.cells im.toArray 33)) := (Below.refl _ _).alloc (Nat.le_refl _) _
  have HB1 := Lib.hid hb1
  have HSz := Lib.hid (sizeX (h.below hb1) hs)
  have HIm : Hid (ImA w im I) := h
  have HIn := Lib.hid (info_im hlen)
  have HBu := Lib.hid (fun p => ly_build2 hlen p)
  have HT : Hid (Tab w) := ht
  have HSs : Hid (szI I ≤ 20000000000) := hs
  have HEn1 := Lib.hid (enters_of Tryd.func10 (by kernel_rfl) rfl)
  clear h ht hs hb1
  obtain ⟨z1, hz1⟩ : ∃ z1, (sizeF I).1 = z1 := ⟨_, rfl⟩
  obtain ⟨z2, hz2⟩ : ∃ z2, (sizeF I).2 = z2 := ⟨_, rfl⟩
  have HZ2 : Hid ((sizeF I).2 = z2) := hz2
  rw [hz1, hz2] at HSz
  rw [hz2]
  clear hz1 hz2
  by_cases hy : z2 = 0
  · go_enter Tryd.func5, Tryd.ntmps5
    go_wp2_with (refine wpList_load_arr rfl 33 (.tmp 1) rfl (b := w.heap.size) (g := im.toArray) rfl HZ0.out Tryd.underlying33 rfl HIn.out ?_)
    refine HSz.out.mono ?_
    rintro e w2 ⟨rfl, hb2⟩
    have hx2 : w2.heap[w.heap.size]? = some (.cells im.toArray 33 (0, 0)) := (hb2.block w.heap.size (by simp)).trans HZ0.out
    have HX2 := Lib.hid hx2
    have HB2 : Hid (Below w.heap.size w w2) := HB1.out.trans (hb2.mono HB1.out.size)
    clear hb2 hx2 HSz HZ0 HB1
    go_wp2_with fail
    refine wp_region_held_drew (S := fun W => W.heap[w.heap.size]? = some (.cells im.toArray 33 (0, 0))) (by kernel_rfl) HX2.out (fun hHeld => ?_)
    simp only [List.size_toArray, List.length_cons, List.length_nil]
    refine takeH (i := 0) (d := 15) (v := .agg im.toArray) rfl rfl (by kernel_rfl) (by kernel_rfl) (by kernel_rfl) (fun _ _ _ h => h) (Or.inl ⟨by kernel_rfl, fun W hW => load_arr_run 33 (x := .tmp 1) rfl rfl hW Tryd.underlying33 rfl HIn.out⟩) hHeld ?_
    simp only [Act.put, List.setIfInBounds_toArray, List.set_cons_succ, List.set_cons_zero]
    refine wpAnyH_ready (rs := [1]) (by kernel_rfl) (by simp) ?_
    refine readyCall (i := 1) (d := 16) rfl rfl (by kernel_rfl) 10 _ _ rfl HEn1.out _ (by simp [Act.eval]) (R := fun v w' => v = .pointer (some ⟨w2.drew.heap.size, 0, none⟩) ∧ Wr w' w2.drew.heap.size (.slice none 0 0) [] 0 w2.drew.heap.size ∧ Below w2.drew.heap.size w2.drew w') ((newWriter_any w2.drew).mono (fun e w' h => ⟨_, h.1, rfl, h.2⟩)) (fun v w' hR => (hR.2.2.block w.heap.size (Array.getElem?_eq_some_iff.1 hHeld).1).trans hHeld) ?_ AllReadyH.nil
    rintro u w3 ⟨rfl, hw3, hb3⟩ hH3
    simp only [Act.put, List.setIfInBounds_toArray, List.set_cons_succ, List.set_cons_zero]
    obtain ⟨p, hp⟩ : ∃ p, w2.drew.heap.size = p := ⟨_, rfl⟩
    rw [hp] at hw3 hb3 ⊢
    have hpw : w.heap.size ≤ p := by rw [← hp]; exact HB2.out.size
    have hB3 : Below w.heap.size w w3 := (HB2.out.trans (c := w2.drew) ⟨rfl, rfl, rfl, Nat.le_refl _, fun _ _ => rfl⟩).trans (hb3.mono hpw)
    have hb4 : Below w3.heap.size w3 (w3.alloc (.cells (lyC im (some p) 0 en0 0).toArray 70)) := (Below.refl _ _).alloc (Nat.le_refl _) _
    have hB4 : Below w.heap.size w (w3.alloc (.cells (lyC im (some p) 0 en0 0).toArray 70)) := hB3.trans (hb4.mono hB3.size)
    have H4 := Lib.hid (st_begin HIm.out (o := some p) (W := w3.alloc (.cells (lyC im (some p) 0 en0 0).toArray 70)) (kb := w3.heap.size) (heap_alloc_new w3 _) (fun r hr => by
      cases hr
      refine ⟨.slice none 0 0, ⟨(hb4.block p hw3.lt).trans hw3.1, own_nil _ _, (fun e => by cases e), (fun z hz => by cases hz)⟩, ?_, hpw⟩
      have := hw3.lt
      omega) hB3.size hB4)
    have HC := Lib.hid (allX HIm.out.g H4.out HSs.out)
    have hS4 : (w3.alloc (.cells (lyC im (some p) 0 en0 0).toArray 70)).heap[w.heap.size]? = some (.cells im.toArray 33 (0, 0)) := (hb4.block w.heap.size (Array.getElem?_eq_some_iff.1 hH3).1).trans hH3
    have hbx : ∀ (V : Array Value) (W : World), True := fun _ _ => trivial
    refine takeH (i := 2) (d := 17) (v := .agg (lyC im (some p) 0 en0 0).toArray) rfl rfl (by kernel_rfl) (by kernel_rfl) (by kernel_rfl) (fun _ _ _ h => h) (Or.inl ⟨by kernel_rfl, fun W _ => build_run 70 rfl (by simp [Act.eval, Act.put]) (HBu.out p W)⟩) hH3 ?_
    simp only [Act.put, List.setIfInBounds_toArray, List.set_cons_succ, List.set_cons_zero]
    refine wpAnyH_ready (rs := [3]) (by kernel_rfl) (by simp) ?_
    refine readyValW (i := 3) (d := 18) (w' := w3.alloc (.cells (lyC im (some p) 0 en0 0).toArray 70)) rfl rfl (by kernel_rfl) (.pointer (some ⟨w3.heap.size, 0, none⟩)) (by go_simp) hS4 ?_ AllReadyH.nil
    simp only [Act.put, List.setIfInBounds_toArray, List.set_cons_succ, List.set_cons_zero]
    have hS9 := Lib.hid hS4
    clear hbx hS4 H4 hw3 hb3 hH3 hHeld hB3 hb4 hp
    have HB4 := Lib.hid hB4
    clear hB4
    generalize w3.alloc (.cells (lyC im (some p) 0 en0 0).toArray 70) = W4 at HC HB4 hS9 ⊢
    refine wpAnyH_ready (rs := [4]) (by kernel_rfl) (by simp) ?_
    refine readyValW (i := 4) (d := 6) (w' := W4) rfl rfl (by kernel_rfl) (.pointer (some ⟨w3.heap.size, 0, none⟩)) (by go_simp) hS9.out ?_ AllReadyH.nil
    simp only [Act.put, List.setIfInBounds_toArray, List.set_cons_succ, List.set_cons_zero]
    refine wpAnyH_done (by kernel_rfl) ?_ _
    go_wp2_with fail
    refine HC.out.mono ?_
    rintro e w5 ⟨rfl, h5⟩
    have HB5 : Hid (Below w.heap.size w w5) := h5.fr.below (Nat.le_refl _)
    have hsz := size_why I (by rw [HZ2.out]; exact hy)
    have HH := Lib.hid (headedX h5 HIm.out.base.1 HIm.out.base.2 (HT.out.below HB5.out) hsz.2)
    clear h5 HC hsz
    go_wp2_with fail
    refine HH.out.mono ?_
    rintro e w6 ⟨rfl, hr6, hb6⟩
    have HR6 := Lib.hid hr6
    have HB6 : Hid (Below w.heap.size w w6) := HB5.out.trans (hb6.mono HB5.out.size)
    have HS6 : Hid (w.heap.size ≤ w5.heap.size) := HB5.out.size
    clear hr6 hb6 HH
    go_wp2_with fail
    go_ret2
    exact ⟨.inr ⟨hy, _, rfl, HS6.out, HR6.out⟩, HB6.out⟩
  · go_enter Tryd.func5, Tryd.ntmps5
    go_wp2_with (refine wpList_load_arr rfl 33 (.tmp 1) rfl (b := w.heap.size) (g := im.toArray) rfl HZ0.out Tryd.underlying33 rfl HIn.out ?_)
    refine HSz.out.mono ?_
    rintro e w2 ⟨rfl, hb2⟩
    have HB2 : Hid (Below w.heap.size w w2) := HB1.out.trans (hb2.mono HB1.out.size)
    clear hb2 HSz HZ0 HB1
    go_wp2_with fail
    go_ret2
    exact ⟨.inl ⟨hy, rfl⟩, HB2.out⟩
end Go.Proofs.YtinjhgimhboigaaDoor
