import Derived.Test.YtdkhhofgfbnmkaaGreatPf51
/- WalkForeign: the law. Own work. -/
namespace Go.Proofs.YtdkhhofgfbnmkaaGreat
open Go.RowKit Go.Maps Go.Shelf Go.Proofs.YtdkhhofgfbnmkaaGreat.Sp Wk Lv
/-- two machines that are new -/
theorem gt_new {w0 w3 w4 : World} {m v : Nat} {vr vd : Value} {rs ds : List Sp} (hr : U64.SV w0 vr rs) (hd : U64.SV w0 vd ds) (hs : Sane (rs ++ ds)) (hl : rs.length + ds.length ≤ 64) (hb3 : Below w0.heap.size w0 w3) (hv : RBox w3 v vr vd (.slice none 0 0) 0 0 0) (hv0 : w0.heap.size ≤ v) (hb4 : Below w3.heap.size w3 w4) (hm : RBox w4 m vr vd (.slice none 0 0) 0 0 0) (hm0 : w3.heap.size ≤ m) : GMt w0 w4 w0.heap.size m v vr vd rs ds (fun _ => 0, 0, 0, []) (fun _ => 0, 0, 0, []) 0 0 := by
  have hvl := hv.lt
  refine ⟨.slice none 0 0, [], .slice none 0 0, [], 0, ⟨0, Nat.le_refl _, ⟨Nat.le_trans hb3.size hm0, hm, World.ownsRow_nil w4 _ _ 2, by simp, Pn.nil, by simp, fun _ => Nat.zero_lt_succ _, fun _ _ => rfl⟩, hb3.trans (hb4.mono hb3.size), hr, hd, hs, hl, Nat.le_refl _⟩, rfl, Nat.le_refl _, ⟨hv0, hv.below hb4, World.ownsRow_nil w4 _ _ 2, by simp, Pn.nil, by simp, fun _ => Nat.zero_lt_succ _, fun _ _ => rfl⟩, rfl, fun j h1 h2 => ?_, Nat.le_trans hb3.size hb4.size⟩
  have e1 : j = m := by
    rcases h1 with e | e | ⟨x, hx, _⟩
    · exact e
    · cases e
    · cases hx
  have e2 : j = v := by
    rcases h2 with e | e | ⟨x, hx, _⟩
    · exact e
    · cases e
    · cases hx
  omega
set_option maxRecDepth 100000 in
set_option maxHeartbeats 4000000 in
theorem foreign_walk {w : World} {vr vd vw sv2 : Value} {rs ds ws : List Sp} {os : List Op5} (hr : U64.SV w vr rs) (hd : U64.SV w vd ds) (fr : Fits 18446744073709551615 rs) (fd : Fits 18446744073709551615 ds) (hw : U64.SV w vw ws) (fw : Fits 18446744073709551615 ws) (hlw : ws.length ≤ 1152921504606846976) (ho : OpsAt w.heap.size w sv2 os) (hb : ∀ o ∈ os, o.2.1 ≤ 18446744073709551615 ∧ o.2.2.1 ≤ 18446744073709551615 ∧ o.2.2.2.1 ≤ 18446744073709551615) (hlo : os.length ≤ 600000000000000) :
    Calls Tryz.prog 4 #[.agg #[vr, vd], vw, sv2] w fun e w' => e = .returned (.bool true) ∧ Below w.heap.size w w' := by
  have HB0 : Hid (Below w.heap.size w (w.alloc (Obj.cells #[vr, vd] 24))) := (Below.refl _ _).alloc (Nat.le_refl _) _
  have HX0 : Hid ((w.alloc (Obj.cells #[vr, vd] 24)).cell? ⟨w.heap.size, 0, none⟩ = some vr ∧ (w.alloc (Obj.cells #[vr, vd] 24)).cell? ⟨w.heap.size, 1, none⟩ = some vd) := U64.new2 rfl vr vd _
  have HRf : Hid (∀ W, Below w.heap.size w W → Calls Tryz.prog 7 #[.agg #[vr, vd]] W fun e w' => e = .returned (.int .i64 (refW rs ds)) ∧ Below W.heap.size W w') := fun W hW => refuses_any (hr.below hW (Nat.le_refl _)) (hd.below hW (Nat.le_refl _)) fr fd
  have HSn : Hid (refW rs ds = 0 → Sane (rs ++ ds) ∧ rs.length + ds.length ≤ 64) := fun h => by
    have := refW_sane fr fd h
    exact ⟨this.1, by have := this.2; omega⟩
  have HR := Lib.hid hr
  have HD := Lib.hid hd
  have HO := Lib.hid ho
  have HBo := Lib.hid hb
  have HW0 := Lib.hid hw
  have HFw := Lib.hid fw
  obtain ⟨ao, cap, hsv2, hc1, hc2, _⟩ := ho
  obtain ⟨aw, cw, hvw, hd1, hd2, hd3, hd4, hd5⟩ := hw
  obtain ⟨NW, hNW⟩ : ∃ NW, NW = ws.length := ⟨_, rfl⟩
  rw [← hNW] at hlw hvw hd1
  have HNW := Lib.hid hNW
  obtain ⟨N, hN⟩ : ∃ N, N = os.length := ⟨_, rfl⟩
  have HN := Lib.hid hN
  rw [← hN] at hlo hsv2 hc1
  unfold maxLen at hc2 hd2
  subst hsv2
  subst hvw
  clear hr hd fr fd fw hb hN hNW hd3 hd4 hd5
  go_enter Tryz.func4, Tryz.ntmps4
  go_wp2_with fail
  refine (awake_any _).mono ?_
  rintro e w1 ⟨rfl, hb1⟩
  have HB1 : Hid (Below w.heap.size w w1) := HB0.out.trans (hb1.mono HB0.out.size)
  have y0 : w1.cell? ⟨w.heap.size, 0, none⟩ = some vr := (hb1.cell (p := ⟨w.heap.size, 0, none⟩) (by simp)).trans HX0.out.1
  have y1 : w1.cell? ⟨w.heap.size, 1, none⟩ = some vd := (hb1.cell (p := ⟨w.heap.size, 1, none⟩) (by simp)).trans HX0.out.2
  have hl1 : w.heap.size < w1.heap.size := by have := hb1.size; simp at this; omega
  clear HX0 hb1 HB0
  obtain ⟨kr, hkr⟩ : ∃ kr, kr = refW rs ds := ⟨_, rfl⟩
  rw [← hkr] at HRf HSn
  clear hkr
  go_wp2_with fail
  refine (HRf.out w1 HB1.out).mono ?_
  rintro e w2 ⟨rfl, hb2⟩
  have HB2 : Hid (Below w.heap.size w w2) := HB1.out.trans (hb2.mono HB1.out.size)
  have z0 : w2.cell? ⟨w.heap.size, 0, none⟩ = some vr := (hb2.cell (p := ⟨w.heap.size, 0, none⟩) hl1).trans y0
  have z1 : w2.cell? ⟨w.heap.size, 1, none⟩ = some vd := (hb2.cell (p := ⟨w.heap.size, 1, none⟩) hl1).trans y1
  have hl2 : w.heap.size < w2.heap.size := by have := hb2.size; omega
  clear hb2 y0 y1 HRf HB1
  by_cases h0 : kr = 0
  · subst h0
    have HLn := Lib.hid (HSn.out rfl)
    clear HSn
    go_wp2_with fail
    refine rnewW_any.mono ?_
    rintro e w3 ⟨v, rfl, HV3, HB3⟩
    have u0 : w3.cell? ⟨w.heap.size, 0, none⟩ = some vr := (HB3.out.1.cell (p := ⟨w.heap.size, 0, none⟩) hl2).trans z0
    have u1 : w3.cell? ⟨w.heap.size, 1, none⟩ = some vd := (HB3.out.1.cell (p := ⟨w.heap.size, 1, none⟩) hl2).trans z1
    clear z0 z1
    go_wp2_with fail
    refine rnewW_any.mono ?_
    rintro e w4 ⟨m, rfl, HV4, HB4⟩
    have HG4 : Hid (∃ p : Ht, GMt w2 w4 w2.heap.size m v vr vd rs ds p p 0 0 ∧ p.2.1 ≤ 0 ∧ p.2.2.1 ≤ 0) := ⟨_, gt_new (HR.out.below HB2.out (Nat.le_refl _)) (HD.out.below HB2.out (Nat.le_refl _)) HLn.out.1 HLn.out.2 HB3.out.1 HV3.out HB3.out.2 HB4.out.1 HV4.out HB4.out.2, Nat.le_refl _, Nat.le_refl _⟩
    clear HV3 HB3 HV4 HB4 u0 u1 HR HD HLn
    go_wp2_with fail
    go_loopw [9] (fun iv wq => ∃ i : Nat, i ≤ NW ∧ iv = .int .i64 (i : Int) ∧ Hid (∃ p : Ht, GMt w2 wq w2.heap.size m v vr vd rs ds p p i i ∧ p.2.1 ≤ 0 ∧ p.2.2.1 ≤ i)) (fun iv _ => NW - (intOf iv).toNat)
    case atStart => exact ⟨0, Nat.zero_le _, rfl, HG4⟩
    case round =>
      obtain ⟨i, hi, rfl, HG⟩ := hrel
      clear HG4
      by_cases hlt : i < NW
      · have qi : (i : Int) < (NW : Int) := by omega
        have hil : i < ws.length := by rw [← HNW.out]; exact hlt
        obtain ⟨P, hg, hpL, hpS⟩ := HG.out
        have HGi := Lib.hid hg
        have HBr : Hid (Below w2.heap.size w2 wr) := hg.low.1
        clear hg HG
        obtain ⟨g, off, rfl, d0, d1⟩ := sv_at (HW0.out.below (HB2.out.trans (HBr.out.mono HB2.out.size)) (Nat.le_refl _)) i hil
        obtain ⟨p0, p1, p2, p3⟩ := HFw.out _ (List.getElem_mem hil)
        generalize hxi : ws[i] = x at *
        obtain ⟨x1, x2⟩ := x
        obtain ⟨a, rfl⟩ : ∃ a : Nat, x1 = (a : Int) := ⟨x1.toNat, by simp only at p0; omega⟩
        obtain ⟨val, rfl⟩ : ∃ a : Nat, x2 = (a : Int) := ⟨x2.toNat, by simp only at p2; omega⟩
        simp only at p0 p1 p2 p3 d0 d1
        have HS1 : Hid (∀ W, Below wr.heap.size wr W → Calls Tryz.prog 11 #[.pointer (some ⟨v, 0, none⟩), .int .u64 (a : Int), .int .i64 8, .int .u64 (val : Int)] W fun e w' => (∃ f, e = .returned f) ∧ Hid (GMt w2 w' w2.heap.size m v vr vd rs ds P (stFt (rs ++ ds) a val P) i (i + 1))) := fun W hW => (gt_lay2 (HGi.out.below hW) (by omega) (by omega) (by omega)).mono (fun e w' ⟨h1, h2, _⟩ => ⟨⟨_, h1⟩, h2⟩)
        have HS2 : Hid (∀ wq W, GMt w2 wq w2.heap.size m v vr vd rs ds P (stFt (rs ++ ds) a val P) i (i + 1) → Below wq.heap.size wq W → Calls Tryz.prog 11 #[.pointer (some ⟨m, 0, none⟩), .int .u64 (a : Int), .int .i64 8, .int .u64 (val : Int)] W fun e w' => (∃ f, e = .returned f) ∧ Hid (∃ p : Ht, GMt w2 w' w2.heap.size m v vr vd rs ds p p (i + 1) (i + 1) ∧ p.2.1 ≤ 0 ∧ p.2.2.1 ≤ i + 1)) := fun wq W hG hW => (gt_lay3 (hG.below hW) (by omega) (by omega) (by omega)).mono (fun e w' ⟨h1, h2, _⟩ => ⟨⟨_, h1⟩, _, h2.out, by have := stFt_le (rs ++ ds) a val P; omega, by have := stFt_le (rs ++ ds) a val P; omega⟩)
        have HXi : Hid (ws[i] = ((a : Int), (val : Int))) := hxi
        have HBd : Hid (Below wr.heap.size wr wr.drew) := (Below.refl _ _).drew
        clear hxi p0 p1 p2 p3 HGi HBr hpL hpS
        go_wp2_with fail
        go_region_with (go_at_call 11; refine (HS1.out _ HBd.out).mono ?_; rintro e w5 ⟨⟨f, rfl⟩, HG5⟩)
        all_goals
          have HB5 : Hid (Below w2.heap.size w2 w5) := HG5.out.low.1
          obtain ⟨g', off', hgo, e0, e1⟩ := sv_at (HW0.out.below (HB2.out.trans (HB5.out.mono HB2.out.size)) (Nat.le_refl _)) i hil
          cases hgo
          rw [HXi.out] at e0 e1
          simp only at e0 e1
          have HBd5 : Hid (Below w5.heap.size w5 w5.drew) := (Below.refl _ _).drew
          clear d0 d1 HS1 HBd HB5
          go_wp2_with fail
          go_region_with (go_at_call 11; refine (HS2.out _ _ HG5.out HBd5.out).mono ?_; rintro e w6 ⟨⟨f', rfl⟩, HG6⟩)
          all_goals
            go_wp2_with fail
            go_roundw
            case rel => exact ⟨i + 1, by omega, by go_num, HG6⟩
            case measure => simp [intOf]; omega
      · have qi : ¬ (i : Int) < (NW : Int) := by omega
        have HG7 : Hid (∃ p : Ht, GMt w2 wr w2.heap.size m v vr vd rs ds p p (NW + 4000 * 0) (NW + 0) ∧ p.2.1 ≤ 8 * 0 ∧ p.2.2.1 ≤ NW + 8 * 0) := by
          obtain ⟨p, h1, h2, h3⟩ := HG.out
          exact ⟨p, h1.mono (by omega) (by omega), by omega, by omega⟩
        obtain ⟨w7, hw7⟩ : ∃ w7, w7 = wr := ⟨_, rfl⟩
        subst hw7
        clear HG HW0 HFw HNW
        go_wp2_with fail
        go_loopw [10] (fun iv wq => ∃ i : Nat, i ≤ N ∧ iv = .int .i64 (i : Int) ∧ Hid (∃ p : Ht, GMt w2 wq w2.heap.size m v vr vd rs ds p p (NW + 4000 * i) (NW + i) ∧ p.2.1 ≤ 8 * i ∧ p.2.2.1 ≤ NW + 8 * i)) (fun iv _ => N - (intOf iv).toNat)
        case atStart => exact ⟨0, Nat.zero_le _, rfl, HG7⟩
        case round =>
          obtain ⟨i, hi, rfl, HG⟩ := hrel
          clear HG7
          obtain ⟨p, hg, hpL, hpS⟩ := HG.out
          have HGi := Lib.hid hg
          have HBr : Hid (Below w2.heap.size w2 wr) := hg.low.1
          clear hg HG
          by_cases hlt : i < N
          · have qi : (i : Int) < (N : Int) := by omega
            have hil : i < os.length := by rw [← HN.out]; exact hlt
            obtain ⟨ao', cap', e', _, _, hcells⟩ := HO.out
            obtain ⟨g, off, eao, hgl, c0, c1, c2, c3, c4⟩ := hcells i hil
            cases e'
            obtain ⟨hb1, hb2, hb3⟩ := HBo.out _ (List.getElem_mem hil)
            subst eao
            have hB : Below w.heap.size w wr := HB2.out.trans (HBr.out.mono HB2.out.size)
            replace c0 := (hB.cell (p := ⟨g, off + i * 5, none⟩) hgl).trans c0
            replace c1 := (hB.cell (p := ⟨g, off + i * 5 + 1, none⟩) hgl).trans c1
            replace c2 := (hB.cell (p := ⟨g, off + i * 5 + 2, none⟩) hgl).trans c2
            replace c3 := (hB.cell (p := ⟨g, off + i * 5 + 3, none⟩) hgl).trans c3
            replace c4 := (hB.cell (p := ⟨g, off + i * 5 + 4, none⟩) hgl).trans c4
            generalize os[i] = o at c0 c1 c2 c3 c4 hb1 hb2 hb3
            obtain ⟨kd, rt, vt, vl, nn⟩ := o
            dsimp only at c0 c1 c2 c3 c4 hb1 hb2 hb3
            have HSt := Lib.hid (stept_any (kd := kd) (nn := nn) HGi.out hb1 hb2 hb3 (by omega) (by omega) (by omega) (by omega))
            clear hcells hB HGi
            go_wp2_with fail
            refine HSt.out.mono ?_
            rintro e w5 ⟨rfl, p', HG', hp1, hp2⟩
            have HG5 : Hid (∃ p : Ht, GMt w2 w5 w2.heap.size m v vr vd rs ds p p (NW + 4000 * (i + 1)) (NW + (i + 1)) ∧ p.2.1 ≤ 8 * (i + 1) ∧ p.2.2.1 ≤ NW + 8 * (i + 1)) := ⟨p', HG'.out.mono (by omega) (by omega), by omega, by omega⟩
            clear HSt HG' hp1 hp2 c0 c1 c2 c3 c4
            go_wp2_with fail
            exact ⟨⟨i + 1, by omega, by go_num, HG5⟩, by simp [intOf]; omega⟩
          · have qi : ¬ (i : Int) < (N : Int) := by omega
            obtain ⟨vp1, ps1, vp2, ps2, X', ⟨X, hX, hx⟩, g1, hX', h7, g2, _, _⟩ := HGi.out
            have HI0 : Hid (RM wr w2.heap.size m vr vd vp1 ps1 p.1 p.2.1 p.2.2.1 X ∧ RM wr w2.heap.size v vr vd vp2 ps2 p.1 p.2.1 p.2.2.1 X' ∧ Below w2.heap.size w2 wr) := ⟨hx.1, h7, HBr.out⟩
            have HNm : Hid (ps1.map Prod.fst = ps2.map Prod.fst) := g1.trans g2.symm
            have hln : ps1.length = ps2.length := by
              have := congrArg List.length HNm.out
              simpa using this
            obtain ⟨a1, cc1, hvp1, hc11, hc12, _⟩ := hx.1.2.2.1.form
            obtain ⟨a2, cc2, hvp2, hc21, hc22, _⟩ := h7.2.2.1.form
            obtain ⟨NP, hNP⟩ : ∃ NP, NP = ps2.length := ⟨_, rfl⟩
            have hnp : NP ≤ 2097153 := by rw [hNP]; exact h7.pn.len
            rw [hln, ← hNP] at hvp1 hc11
            rw [← hNP] at hvp2 hc21
            have HNP : Hid (NP = ps1.length ∧ NP = ps2.length) := ⟨by rw [hln]; exact hNP, hNP⟩
            unfold maxLen at hc12 hc22
            subst hvp1 hvp2
            obtain ⟨M, L, S, NS⟩ := p
            dsimp only at HI0 hpL hpS
            obtain ⟨w8, hw8⟩ : ∃ w8, w8 = wr := ⟨_, rfl⟩
            subst hw8
            clear HGi HBr hx h7 g1 g2 hln hNP hX hX' HO HBo HN
            obtain ⟨c0, c1, c2, c3, c4, _⟩ := HI0.out.1.2.1.cells
            obtain ⟨d0, d1, d2, d3, d4, _⟩ := HI0.out.2.1.2.1.cells
            go_wp2_with fail
            go_quiet (fail)
            go_wp2_with fail
            go_loopw [11] (fun iv wq => ∃ i : Nat, i ≤ NP ∧ iv = .int .i64 (i : Int) ∧ Hid (RM wq w2.heap.size m vr vd (.slice a1 NP cc1) ps1 M L S X ∧ RM wq w2.heap.size v vr vd (.slice a2 NP cc2) ps2 M L S X' ∧ Below w2.heap.size w2 wq)) (fun iv _ => NP - (intOf iv).toNat)
            case atStart => exact ⟨0, Nat.zero_le _, rfl, HI0.out.1.below (below_drewNn _ _), HI0.out.2.1.below (below_drewNn _ _), HI0.out.2.2.trans ((below_drewNn _ _).mono HI0.out.2.2.size)⟩
            case round =>
              clear HI0 c0 c1 c2 c3 c4 d0 d1 d2 d3 d4
              obtain ⟨i, hi, rfl, HI⟩ := hrel
              obtain ⟨c0, c1, c2, c3, c4, _⟩ := HI.out.1.2.1.cells
              obtain ⟨d0, d1, d2, d3, d4, _⟩ := HI.out.2.1.2.1.cells
              by_cases hlt : i < NP
              · have qi : (i : Int) < (NP : Int) := by omega
                have hil1 : i < ps1.length := by rw [← HNP.out.1]; exact hlt
                have hil2 : i < ps2.length := by rw [← HNP.out.2]; exact hlt
                obtain ⟨gA, hal, e0, e1⟩ := HI.out.1.2.2.1.cell i hil1
                subst hal
                obtain ⟨gB, hal, f0, f1⟩ := HI.out.2.1.2.2.1.cell i hil2
                subst hal
                have hn12 : (ps1[i]'hil1).1 = (ps2[i]'hil2).1 := by
                  have h1 : (ps1.map Prod.fst)[i]? = (ps2.map Prod.fst)[i]? := by rw [HNm.out]
                  rw [List.getElem?_map, List.getElem?_map, List.getElem?_eq_getElem hil1, List.getElem?_eq_getElem hil2] at h1
                  simpa using h1
                rw [hn12] at e0
                obtain ⟨nm, hnm⟩ : ∃ nm, nm = (ps2[i]'hil2).1 := ⟨_, rfl⟩
                obtain ⟨x1, hx1⟩ : ∃ x1, x1 = (ps1[i]'hil1).2 := ⟨_, rfl⟩
                obtain ⟨x2, hx2⟩ : ∃ x2, x2 = (ps2[i]'hil2).2 := ⟨_, rfl⟩
                have HP1 : Hid (P8 wr x1 4096 (fun i => M (nm.toNat * 4096 + i))) := by
                  have := (HI.out.1.2.2.2.1 _ (List.getElem_mem hil1)).2
                  rw [hn12, ← hx1, ← hnm] at this
                  exact this
                have HP2 : Hid (P8 wr x2 4096 (fun i => M (nm.toNat * 4096 + i))) := by
                  have := (HI.out.2.1.2.2.2.1 _ (List.getElem_mem hil2)).2
                  rw [← hx2, ← hnm] at this
                  exact this
                rw [← hx1] at e1
                rw [← hx2] at f1
                rw [← hnm] at e0 f0
                clear hn12 hnm hx1 hx2
                have HSm : Hid (∀ W, Below wr.heap.size wr W → Calls Tryz.prog 12 #[.slice (some ⟨x2, 0, none⟩) 4096 4096, .slice (some ⟨x1, 0, none⟩) 4096 4096] W fun e w' => e = .returned (.bool true) ∧ Below W.heap.size W w') := fun W hW => by
                  have hp1 := HP1.out.keeps (Keeps.of_below (S := fun _ => False) hW) (fun h => h)
                  have hp2 := HP2.out.keeps (Keeps.of_below (S := fun _ => False) hW) (fun h => h)
                  have hget : ∀ i, i < 4096 → (bytesAt M (nm.toNat * 4096) 4096).getD i 0 = M (nm.toNat * 4096 + i) := fun i hi => by
                    rw [List.getD_eq_getElem?_getD, bytesAt, List.getElem?_map, List.getElem?_range hi]
                    rfl
                  refine same_yes (L := bytesAt M (nm.toNat * 4096) 4096) (fun i hi => ⟨x2, rfl, hp2.lt, ?_⟩) (fun i hi => ⟨x1, rfl, hp1.lt, ?_⟩) (by omega) (by omega)
                  · rw [hget i hi]
                    exact hp2.cell i hi
                  · rw [hget i hi]
                    exact hp1.cell i hi
                clear HP1 HP2
                have hm0 : m < wr.heap.size := HI.out.1.2.1.lt
                have hv0 : v < wr.heap.size := HI.out.2.1.2.1.lt
                have hgA : gA < wr.heap.size := World.block_lt_of_cell? wr _ e0
                have hgB : gB < wr.heap.size := World.block_lt_of_cell? wr _ f0
                have HS0 : Hid (∀ W, Below wr.heap.size wr W → W.cell? ⟨m, 2, none⟩ = some (.slice (some ⟨gA, 0, none⟩) NP cc1) ∧ W.cell? ⟨v, 2, none⟩ = some (.slice (some ⟨gB, 0, none⟩) NP cc2) ∧ W.cell? ⟨gA, i * 2, none⟩ = some (.int .u64 nm) ∧ W.cell? ⟨gA, i * 2 + 1, none⟩ = some (.slice (some ⟨x1, 0, none⟩) 4096 4096) ∧ W.cell? ⟨gB, i * 2, none⟩ = some (.int .u64 nm) ∧ W.cell? ⟨gB, i * 2 + 1, none⟩ = some (.slice (some ⟨x2, 0, none⟩) 4096 4096)) := fun W hW => ⟨(hW.cell (p := ⟨m, 2, none⟩) hm0).trans c2, (hW.cell (p := ⟨v, 2, none⟩) hv0).trans d2, (hW.cell (p := ⟨gA, i * 2, none⟩) hgA).trans e0, (hW.cell (p := ⟨gA, i * 2 + 1, none⟩) hgA).trans e1, (hW.cell (p := ⟨gB, i * 2, none⟩) hgB).trans f0, (hW.cell (p := ⟨gB, i * 2 + 1, none⟩) hgB).trans f1⟩
                have HBd : Hid (Below wr.heap.size wr wr.drew) := (Below.refl _ _).drew
                go_upto_region 22 with fail
                clear c0 c1 c2 c3 c4 d0 d1 d2 d3 d4 e0 e1 f0 f1 hm0 hv0 hgA hgB
                go_region_held3 (fun W => W.cell? ⟨m, 2, none⟩ = some (.slice (some ⟨gA, 0, none⟩) NP cc1) ∧ W.cell? ⟨v, 2, none⟩ = some (.slice (some ⟨gB, 0, none⟩) NP cc2) ∧ W.cell? ⟨gA, i * 2, none⟩ = some (.int .u64 nm) ∧ W.cell? ⟨gA, i * 2 + 1, none⟩ = some (.slice (some ⟨x1, 0, none⟩) 4096 4096) ∧ W.cell? ⟨gB, i * 2, none⟩ = some (.int .u64 nm) ∧ W.cell? ⟨gB, i * 2 + 1, none⟩ = some (.slice (some ⟨x2, 0, none⟩) 4096 4096)) (first | exact HS9.out | exact HS0.out _ HBd.out) (first | (go_at_call 12; refine (HSm.out _ HBd.out).mono ?_; rintro e w9 ⟨rfl, hb9⟩; have HB9 : Hid (Below wr.heap.size wr w9) := HBd.out.trans (hb9.mono HBd.out.size); have HS9 := Lib.hid (HS0.out _ HB9.out); clear hb9))
                all_goals
                  have HI9 : Hid (RM w9 w2.heap.size m vr vd (.slice (some ⟨gA, 0, none⟩) NP cc1) ps1 M L S X ∧ RM w9 w2.heap.size v vr vd (.slice (some ⟨gB, 0, none⟩) NP cc2) ps2 M L S X' ∧ Below w2.heap.size w2 w9) := ⟨HI.out.1.below HB9.out, HI.out.2.1.below HB9.out, HI.out.2.2.trans (HB9.out.mono HI.out.2.2.size)⟩
                  clear HSm HI HS0 HS9
                  go_wp2_with fail
                  exact ⟨⟨i + 1, by omega, by go_num, HI9⟩, by simp [intOf]; omega⟩
              · have qi : ¬ (i : Int) < (NP : Int) := by omega
                go_wp2_with fail
                go_ret
                exact ⟨rfl, HB2.out.trans (HI.out.2.2.mono HB2.out.size)⟩
  · have h0b : (kr != 0) = true := by simpa using h0
    go_wp2_with fail
    go_ret
    exact ⟨rfl, HB2.out⟩
end Go.Proofs.YtdkhhofgfbnmkaaGreat
