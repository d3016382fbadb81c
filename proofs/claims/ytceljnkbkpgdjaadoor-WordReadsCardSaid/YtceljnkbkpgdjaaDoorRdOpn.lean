/- WordReads: opens. Own work. -/
import Derived.Test.YtceljnkbkpgdjaaDoorRdTks
import Derived.Deep.RegionLaw
namespace Go.Proofs.YtceljnkbkpgdjaaDoor
open Go.RowKit Go.Shelf
set_option linter.unusedVariables false
theorem info_pd : (Tryd.prog.info? 48).map (fun i => (i.zero, i.size, i.bytes)) = some (some (.pointer none), 1, 8) := by kernel_rfl
theorem info_pe : (Tryd.prog.info? 49).map (fun i => (i.zero, i.size, i.bytes)) = some (some (.pointer none), 1, 8) := by kernel_rfl
set_option maxRecDepth 100000 in
set_option maxHeartbeats 4000000 in
theorem opens_any {w0 w : World} {X : Nat} {v : Value} {zs : List Nat} {L : List Ri} {A B : Value} (h : Rh w0 X v zs L (L.map ptrD) (L.map ptrE) A B w) (hL : L.length ≤ 1000) :
    Calls Tryd.prog 11 #[.pointer (some ⟨X, 0, none⟩)] w fun e w' => e = .returned (.bool true) ∧ ∃ (x : Ri) (A' B' : Value), Rh w0 X v zs (L ++ [x]) ((L ++ [x]).map ptrD) ((L ++ [x]).map ptrE) A' B' w' := by
  have HF := Lib.hid h
  have HSl0 := Lib.hid h.sl
  obtain ⟨q, hq⟩ : ∃ q, zs.length = q := ⟨_, rfl⟩
  have HQ := Lib.hid hq
  obtain ⟨va, vc, hv, hv1, hv2, _⟩ := id h.sl
  have hlz := h.len
  rw [hq] at hv hv1 hlz
  subst hv
  have HSm : Hid (∀ z ∈ zs, z < 256) := h.sl.small
  have HRo := Lib.hid (roomy_any (m := 165) h.sl h.len)
  rw [hq] at HRo
  obtain ⟨x0, _, _, xl, xt⟩ := h.cells
  have HSz0 : Hid (w0.heap.size ≤ w.heap.size) := h.size
  obtain ⟨m, hmL⟩ : ∃ m, L.length = m := ⟨_, rfl⟩
  have HmL := Lib.hid hmL
  rw [hmL] at hL
  have hqq : (q : Int) ≤ (q : Int) + 80 := by omega
  clear h hq hmL
  go_enter Tryd.func11, Tryd.ntmps11
  go_wp2_with fail
  refine HRo.out.mono ?_
  rintro e w1 ⟨rfl, hrow, hb1⟩
  have HRow1 := Lib.hid hrow
  have HB1 := Lib.hid hb1
  have HLt1 : Hid (w.heap.size < w1.heap.size) := hrow.lt
  have hf1 := HF.out.of_below hb1
  obtain ⟨y0, _, _, yl, yt⟩ := hf1.cells
  have hfr : Sl w1 (.slice (some ⟨w.heap.size, 0, none⟩) q (q + 80)) zs := by
    have h9 := hrow.sl (roomed_small HSm.out (by decide)) 0 q (q + 80) (by rw [roomed_length, HQ.out]; omega) (by omega) (by unfold maxLen; omega)
    rw [List.drop_zero, ← HQ.out, roomed_take, HQ.out] at h9
    exact h9
  have HNw := Lib.hid (newReader_any hfr (by rw [HQ.out]; omega))
  clear hrow hb1 HRo hf1 hfr x0 xl xt
  go_wp2_with fail
  refine HNw.out.mono ?_
  rintro e w2 ⟨p, rfl, hp1, hrd, hb2⟩
  have HRd := Lib.hid hrd
  have HB2 := Lib.hid hb2
  have HP1 := Lib.hid hp1
  have hb02 : Below w.heap.size w w2 := HB1.out.trans (hb2.mono (Nat.le_of_lt HLt1.out))
  have hf2 := HF.out.of_below hb02
  obtain ⟨z0, _, _, zl, zt⟩ := hf2.cells
  have HRow2 : Hid (Row w2 w.heap.size (roomed zs 165)) := HRow1.out.below hb2
  have hfu : Sl w2 (.slice (some ⟨w.heap.size, 0, none⟩) (q + 80) (q + 80)) (roomed zs 165) := by
    have h9 := HRow2.out.sl (roomed_small HSm.out (by decide)) 0 (q + 80) (q + 80) (by rw [roomed_length, HQ.out]; omega) (by omega) (by unfold maxLen; omega)
    rw [List.drop_zero, List.take_of_length_le (by rw [roomed_length, HQ.out]; omega)] at h9
    exact h9
  have HIn := Lib.hid (intact_any (m := 165) hfu hf2.sl)
  have HB02 := Lib.hid hb02
  clear hp1 hrd hb2 HNw hf2 hfu y0 yl yt hb02
  go_wp2_with fail
  refine HIn.out.mono ?_
  rintro e w3 ⟨rfl, hb3⟩
  have HB03 : Hid (Below w.heap.size w w3) := HB02.out.trans (hb3.mono HB02.out.size)
  have HRow3 : Hid (∃ Lr, Lr.length = q + 80 ∧ (∀ z ∈ Lr, z < 256) ∧ Row w3 w.heap.size Lr) := ⟨_, by rw [roomed_length, HQ.out], roomed_small HSm.out (by decide), HRow2.out.below hb3⟩
  have HRd3 : Hid (Rd w3 p w1.heap.size zs 0 0) := HRd.out.keeps (S := fun _ => False) (Keeps.of_below hb3) id id
  clear hb3 HIn HRow2 HRow1 z0 zl zt HRd
  go_wp2_with fail
  go_loopw [6] (fun iv wr => ∃ i : Nat, i ≤ q + 80 ∧ iv = .int .i64 (i : Int) ∧ Hid (Below w.heap.size w wr) ∧ Hid (Rd wr p w1.heap.size zs 0 0) ∧ Hid (∃ Lr, Lr.length = q + 80 ∧ (∀ z ∈ Lr, z < 256) ∧ Row wr w.heap.size Lr)) (fun iv _ => q + 80 - (intOf iv).toNat)
  case atStart => exact ⟨0, by omega, rfl, HB03, HRd3, HRow3⟩
  case round =>
    clear HB03 HRd3 HRow3
    obtain ⟨i, hi, rfl, HBr, HRr, HLr⟩ := hrel
    by_cases hin : i < q + 80
    · obtain ⟨Lr, hlr, hsm, hrow⟩ := HLr.out
      have ji : (i : Int) < (q : Int) + 80 := by omega
      have jw : IntKind.i64.wrap ((i : Int) + 1) = ((i + 1 : Nat) : Int) := by rw [IntKind.wrap_i64]; omega
      have ce := hrow.cell i (by omega)
      have th := hrow.thawed i
      have hzl : Lr.getD i 0 < 256 := Pl.mem_getD hsm
      have hrow' := hrow.set i (255 - Lr.getD i 0)
      have hsm' : ∀ z ∈ Lr.set i (255 - Lr.getD i 0), z < 256 := fun z hz => by
        rcases List.mem_or_eq_of_mem_set hz with hz | rfl
        · exact hsm z hz
        · omega
      have hlen' : (Lr.set i (255 - Lr.getD i 0)).length = q + 80 := by rw [List.length_set, hlr]
      obtain ⟨zz, hzz⟩ : ∃ zz, Lr.getD i 0 = zz := ⟨_, rfl⟩
      rw [hzz] at ce hzl hrow' hsm' hlen'
      have jx := xor_ff hzl
      have HL5 : Hid (∃ Lr, Lr.length = q + 80 ∧ (∀ z ∈ Lr, z < 256) ∧ Row (wr.setCell ⟨w.heap.size, i, none⟩ (.int .u8 ((255 - zz : Nat) : Int))) w.heap.size Lr) := ⟨_, hlen', hsm', hrow'⟩
      have HR5 : Hid (Rd (wr.setCell ⟨w.heap.size, i, none⟩ (.int .u8 ((255 - zz : Nat) : Int))) p w1.heap.size zs 0 0) := HRr.out.keeps (Keeps.setCell wr w.heap.size i _) (by have := HP1.out; have := HLt1.out; omega) (by have := HLt1.out; omega)
      have HB5 : Hid (Below w.heap.size w (wr.setCell ⟨w.heap.size, i, none⟩ (.int .u8 ((255 - zz : Nat) : Int)))) := HBr.out.trans ((Keeps.setCell wr w.heap.size i _).below HBr.out.size (fun k _ e => Nat.le_of_eq e.symm))
      obtain ⟨z2, hz2⟩ : ∃ z2 : Nat, 255 - zz = z2 := ⟨_, rfl⟩
      rw [hz2] at jx HL5 HR5 HB5
      clear hrow hrow' hsm hsm' hlen' hlr HBr HRr HLr hzz hz2 hzl
      go_wp2_with fail
      go_roundw
      case rel => exact ⟨i + 1, by omega, rfl, HB5, HR5, HL5⟩
      case measure => simp [intOf]; omega
    · have ji : ¬ (i : Int) < (q : Int) + 80 := by omega
      have hf4 := HF.out.of_below HBr.out
      obtain ⟨aa, ac, rfl⟩ := hf4.ra.form
      obtain ⟨ba, bc, rfl⟩ := hf4.rb.form
      simp only [List.length_map] at hf4
      rw [HmL.out] at hf4
      obtain ⟨x0, x1, x2, xl, xt⟩ := hf4.cells
      have H4 := Lib.hid hf4
      have HSw : Hid (w0.heap.size ≤ wr.heap.size) := hf4.size
      clear hf4
      have HRa : Hid (∀ Y, RowV (wr.alloc Y) w0.heap.size 48 (.slice aa m ac) (L.map ptrD)) := fun Y => H4.out.ra.keeps (S := fun _ => False) (Keeps.alloc wr Y) (fun _ _ => id)
      have HCl : Hid (∀ (y : Value) t, (wr.alloc (.cells #[y] t)).cell? ⟨wr.heap.size, 0, none⟩ = some y) := fun y t => by rw [cell_of_row _ _ 0 _ _ _ (heap_alloc_new wr _)]; rfl
      have HLn : Hid ((L.map ptrD).length ≤ 1048576) := show _ ≤ _ by rw [List.length_map, HmL.out]; omega
      have HA : Hid (∀ Y V w2, (wr.alloc Y).grownBy w2 (Value.slice aa m ac).ownBlock → RowV w2 w0.heap.size 48 V (L.map ptrD ++ [.pointer (some ⟨p, 0, none⟩)]) → Rh w0 X (.slice va q vc) zs L (L.map ptrD ++ [.pointer (some ⟨p, 0, none⟩)]) (L.map ptrE) V (.slice ba m bc) (w2.setCell ⟨X, 1, none⟩ V) ∧ w2.cell? ⟨X, 1, none⟩ = some (.slice aa m ac) ∧ w2.frozen? ⟨X, 1, none⟩ = false ∧ Rd (w2.setCell ⟨X, 1, none⟩ V) p w1.heap.size zs 0 0 ∧ wr.heap.size ≤ (w2.setCell ⟨X, 1, none⟩ V).heap.size) := by
        intro Y V w2 hg hr
        have hbY : Below wr.heap.size wr (wr.alloc Y) := (Below.refl _ _).alloc (Nat.le_refl _) _
        obtain ⟨k1, k2, k3, k4⟩ := (H4.out.of_below hbY).appA hg hr
        have hwY := HRr.out.keeps (S := fun _ => False) (Keeps.alloc wr Y) id id
        obtain ⟨lv, wv, held, E, b, _⟩ := (H4.out.of_below hbY).rows
        have no : ∀ k t, Tg (wr.alloc Y) k t → t ≠ 45 → t ≠ 48 → ¬ (k = X ∨ (Value.slice aa m ac).ownBlock = some k) := by
          rintro k t ht n1 n2 (e | e)
          · rw [e] at ht; exact ht.ne ⟨_, b.blk⟩ n1
          · exact ht.ne ((H4.out.of_below hbY).ra.tg _ e) n2
        exact ⟨k1, k2, k3, hwY.keeps k4 (no _ _ ⟨_, hwY.1⟩ (by decide) (by decide)) (no _ _ ⟨_, hwY.2.1⟩ (by decide) (by decide)), Nat.le_trans hbY.size k4.size⟩
      have HFl : Hid (∀ x ∈ L, x.p < w.heap.size ∧ x.r < w.heap.size) := HF.out.lt
      have HSzr : Hid (w1.heap.size < wr.heap.size ∧ w1.heap.size < p) := ⟨by have := HRr.out.lt; have := HP1.out; omega, HP1.out⟩
      go_upto_region 9 with (refine wpList_appP (base := w0.heap.size) (vs := L.map ptrD) (y := .pointer (some ⟨p, 0, none⟩)) (g := wr.heap.size) (cap := 1) (by rfl) (.tmp 48) (.tmp 50) Tryd.underlying42 info_pd (by rfl) (by exact HRa.out _) (by rfl) (by rfl) (by exact HCl.out _ _) (by rfl) (by exact HLn.out) (by have := HSw.out; simp; omega) ?_; intro va1 vc1 w5 hr2 hg2 hl2; have HA2 := Lib.hid (HA.out _ _ _ hg2 hr2); have e0 := HA2.out.2.1; have z0 := HA2.out.2.2.1; clear hr2 hg2 hl2)
      simp only [List.length_map] at HA2
      obtain ⟨V1, hV1⟩ : ∃ V1, Value.slice va1 (m + 1) vc1 = V1 := ⟨_, rfl⟩
      simp only [HmL.out] at HA2 ⊢
      rw [hV1] at HA2 ⊢
      obtain ⟨W3, hW3⟩ : ∃ W3, w5.setCell ⟨X, 1, none⟩ V1 = W3 := ⟨_, rfl⟩
      rw [hW3] at HA2 ⊢
      have HM3 := Lib.hid HA2.out.1
      have HW3 := Lib.hid HA2.out.2.2.2.1
      have HSz3 := Lib.hid HA2.out.2.2.2.2
      clear HA2 e0 z0 hW3 hV1 HA HRa HCl HLn x0 x1 x2 xl xt
      obtain ⟨y0, y1, y2, yl, yt⟩ := HM3.out.cells
      have y22 := yt 2
      have HSw3 : Hid (w0.heap.size ≤ W3.heap.size) := HM3.out.size
      have HRb : Hid (∀ Y Z, RowV ((W3.drew.alloc Y).alloc Z) w0.heap.size 49 (.slice ba m bc) (L.map ptrE)) := fun Y Z => ((HM3.out.of_below ((Below.refl _ _).drew)).rb.keeps (S := fun _ => False) (Keeps.alloc W3.drew Y) (fun _ _ => id)).keeps (S := fun _ => False) (Keeps.alloc _ Z) (fun _ _ => id)
      have HCl : Hid (∀ Y (y : Value) t, ((W3.drew.alloc Y).alloc (.cells #[y] t)).cell? ⟨W3.heap.size + 1, 0, none⟩ = some y) := fun Y y t => by
        have := cell_of_row _ _ 0 _ _ _ (heap_alloc_new (W3.drew.alloc Y) (.cells #[y] t))
        rw [show (W3.drew.alloc Y).heap.size = W3.heap.size + 1 by simp] at this
        rw [this]; rfl
      have HLn : Hid ((L.map ptrE).length ≤ 1048576) := show _ ≤ _ by rw [List.length_map, HmL.out]; omega
      have HFin : Hid (∀ Z V w4, ((W3.drew.alloc (.cells #[.slice va q vc, .int .i64 0, .int .i64 0] 70)).alloc Z).grownBy w4 (Value.slice ba m bc).ownBlock → RowV w4 w0.heap.size 49 V (L.map ptrE ++ [.pointer (some ⟨W3.heap.size, 0, none⟩)]) → w4.cell? ⟨X, 2, none⟩ = some (.slice ba m bc) ∧ w4.frozen? ⟨X, 2, none⟩ = false ∧ ∃ (x : Ri) (A' B' : Value), Rh w0 X (.slice va q vc) zs (L ++ [x]) ((L ++ [x]).map ptrD) ((L ++ [x]).map ptrE) A' B' (w4.setCell ⟨X, 2, none⟩ V)) := by
        intro Z V w4 hg hr
        have hb0 : Below W3.heap.size W3 W3.drew := (Below.refl _ _).drew
        have hb1 : Below W3.heap.size W3 (W3.drew.alloc (.cells #[.slice va q vc, .int .i64 0, .int .i64 0] 70)) := hb0.alloc hb0.size _
        have hb2 : Below W3.heap.size W3 ((W3.drew.alloc (.cells #[.slice va q vc, .int .i64 0, .int .i64 0] 70)).alloc Z) := hb1.alloc hb1.size _
        have hm2 := HM3.out.of_below hb2
        have hx0 : Rr (W3.drew.alloc (.cells #[.slice va q vc, .int .i64 0, .int .i64 0] 70)) W3.heap.size (.slice va q vc) zs 0 0 := ⟨heap_alloc_new W3.drew _, HM3.out.sl.below hb1, fun hz e => by have := HM3.out.vb hz _ e; have := HSw3.out; omega, Nat.zero_le _, by have := HM3.out.len; omega⟩
        have hx := hx0.keeps (S := fun _ => False) (Keeps.alloc _ Z) id (fun _ _ _ => id)
        have hw := HW3.out.keeps (S := fun _ => False) (Keeps.of_below hb2) id id
        obtain ⟨k1, k2, k3, k4⟩ := hm2.appB hg hr
        obtain ⟨lv, wv, held, E, b, _⟩ := hm2.rows
        have no : ∀ k t, Tg ((W3.drew.alloc (.cells #[.slice va q vc, .int .i64 0, .int .i64 0] 70)).alloc Z) k t → t ≠ 45 → t ≠ 49 → ¬ (k = X ∨ (Value.slice ba m bc).ownBlock = some k) := by
          rintro k t ht n1 n2 (e | e)
          · rw [e] at ht; exact ht.ne ⟨_, b.blk⟩ n1
          · exact ht.ne (hm2.rb.tg _ e) n2
        refine ⟨k2, k3, ⟨p, w1.heap.size, W3.heap.size, 0, 0⟩, _, _, Rh.more (m := w.heap.size) k1 HFl.out (by have := HSzr.out; have := HLt1.out; omega) (by have := HSzr.out; have := HLt1.out; have := HSz3.out; omega) HSz0.out (hw.keeps k4 (no _ _ ⟨_, hw.1⟩ (by decide) (by decide)) (no _ _ ⟨_, hw.2.1⟩ (by decide) (by decide))) (hx.keeps k4 (no _ _ ⟨_, hx.1⟩ (by decide) (by decide)) (fun hz k hk => ?_))⟩
        rintro (e | e)
        · have := HM3.out.vb hz _ hk; have := HM3.out.gx; omega
        · have := HM3.out.vb hz _ hk; have := (hm2.rb.lt k e).1; omega
      go_region_law (refine step_appP (base := w0.heap.size) (vs := L.map ptrE) (y := .pointer (some ⟨W3.heap.size, 0, none⟩)) (g := W3.heap.size + 1) (cap := 1) (by kernel_rfl) (.tmp 58) (.tmp 65) Tryd.underlying43 info_pe (by rfl) (by exact HRb.out _ _) (by rfl) (by rfl) (by exact HCl.out _ _ _) (by rfl) (by exact HLn.out) (by have := HSw3.out; simp; omega) ?_; intro va2 vc2 w4 hr4 hg4 hl4; have HA4 := Lib.hid (HFin.out _ _ _ hg4 hr4); have e0 := HA4.out.1; have z0 := HA4.out.2.1; clear hr4 hg4 hl4)
      all_goals
        go_wp2_with fail
        go_ret
        have h9 := HA4.out.2.2
        rw [List.length_map] at h9
        simp only [List.map_append, List.map_cons, List.map_nil] at h9
        exact ⟨rfl, h9⟩
end Go.Proofs.YtceljnkbkpgdjaaDoor
