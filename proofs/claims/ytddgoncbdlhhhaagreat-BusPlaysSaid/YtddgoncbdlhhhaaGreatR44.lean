import Derived.Test.YtddgoncbdlhhhaaGreatR43
import Derived.RegionTactic
import Derived.Test.YtddgoncbdlhhhaaGreatR22
/- BusPlays: a step: whole (written by parts/gen_bpst.py). Own work. -/
namespace Go.Proofs.YtddgoncbdlhhhaaGreat
open Go.RowKit Go.Maps Go.Proofs.YtddgoncbdlhhhaaGreat.Sp Wk
set_option linter.unusedVariables false
set_option maxRecDepth 100000 in
set_option maxHeartbeats 4000000 in
theorem same_y {w : World} {a b : Option Addr} {L : List Nat} {n c d : Nat} (ha : ∀ i, i < n → ∃ g, a = some ⟨g, 0, none⟩ ∧ g < w.heap.size ∧ w.cell? ⟨g, i, none⟩ = some (.int .u8 ((L.getD i 0 : Nat) : Int))) (hb : ∀ i, i < n → ∃ g, b = some ⟨g, 0, none⟩ ∧ g < w.heap.size ∧ w.cell? ⟨g, i, none⟩ = some (.int .u8 ((L.getD i 0 : Nat) : Int))) (hn : n ≤ 1099511627776) :
    Calls Tryz.prog 34 #[.slice a n c, .slice b n d] w fun e w' => e = .returned (.bool true) ∧ Below w.heap.size w w' := by
  have HA : Hid (∀ W, Below w.heap.size w W → ∀ i, i < n → ∃ g, a = some ⟨g, 0, none⟩ ∧ W.cell? ⟨g, i, none⟩ = some (.int .u8 ((L.getD i 0 : Nat) : Int))) := fun W hW i hi => by
    obtain ⟨g, e, h1, h2⟩ := ha i hi
    exact ⟨g, e, (hW.cell (p := ⟨g, i, none⟩) h1).trans h2⟩
  have HB : Hid (∀ W, Below w.heap.size w W → ∀ i, i < n → ∃ g, b = some ⟨g, 0, none⟩ ∧ W.cell? ⟨g, i, none⟩ = some (.int .u8 ((L.getD i 0 : Nat) : Int))) := fun W hW i hi => by
    obtain ⟨g, e, h1, h2⟩ := hb i hi
    exact ⟨g, e, (hW.cell (p := ⟨g, i, none⟩) h1).trans h2⟩
  have hbig : n ≤ 9223372036854775807 := by omega
  clear ha hb
  go_enter Tryz.func34, Tryz.ntmps34
  go_wp2_with fail
  go_loopw [5] (fun x wr => ∃ (i : Nat), i ≤ n ∧ x = .int .i64 (i : Int) ∧ Hid (Below w.heap.size w wr)) (fun x _ => match x with | .int _ z => n - z.toNat | _ => 0)
  case atStart => exact ⟨0, by omega, rfl, Below.refl _ _⟩
  case round =>
    obtain ⟨i, hi, rfl, HK⟩ := hrel
    by_cases hlt : i < n
    · obtain ⟨g, rfl, h1⟩ := HA.out wr HK.out i hlt
      obtain ⟨g', rfl, h2⟩ := HB.out wr HK.out i hlt
      generalize L.getD i 0 = z at h1 h2
      go_wp2_with fail
      go_region
      go_wp2_with fail
      go_roundw
      case rel => exact ⟨i + 1, by omega, by go_num, HK.out.drew⟩
      case measure => simp; omega
    · obtain rfl : i = n := by omega
      go_wp2_with fail
      go_ret
      exact ⟨rfl, HK.out⟩
theorem offX_on {LL : List Sp} {a n : Nat} (h : ∀ i : Nat, i < n → On LL ((a : Int) + i)) : offX LL a n = (0, false) := offX_is ⟨fun e => (by cases e), fun _ => ⟨rfl, h⟩⟩
theorem readP_on {LL : List Sp} {p : Ps} {a n : Nat} (h : ∀ i : Nat, i < n → On LL ((a : Int) + i)) : wyC LL a (n : Int) = 0 ∧ adC LL a (n : Int) = 0 ∧ rdP LL p a (n : Int) = p ∧ rdL LL p a (n : Int) = bytesAt p.M a n := by
  have hneg : ¬ ((n : Nat) : Int) < 0 := by omega
  refine ⟨?_, ?_, ?_, ?_⟩
  · simp only [wyC, hneg, Int.toNat_natCast, offX_on h, if_false, Bool.false_eq_true]
  · simp only [adC, hneg, Int.toNat_natCast, offX_on h, if_false]
  · simp only [rdP, hneg, Int.toNat_natCast, offX_on h, if_false, up, Bool.false_eq_true]
  · simp only [rdL, hneg, Int.toNat_natCast, offX_on h, if_false, Bool.false_eq_true]
set_option maxRecDepth 100000 in
set_option maxHeartbeats 8000000 in
theorem whole_any {w0 w : World} {bb R : Nat} {vr vd : Value} {rs ds : List Sp} {gs : List (Nat × Nat × Nat)} {ps : List Ps} {k i g m v : Nat} {p : Ps} (hB : BusOk w0 vr vd rs ds) (h : Al w0 w bb R vr vd rs ds gs ps ps [] []) (hgi : gs[i]? = some (g, m, v)) (hpi : ps[i]? = some p) (hpk : Ps.le p k) (hk : k ≤ 4000000000000000000) :
    Calls Tryz.prog 8 #[.pointer (some ⟨R, 0, none⟩), .pointer (some ⟨g, 0, none⟩)] w fun e w' => e = .returned (.bool true) ∧ Hid (Al w0 w' bb R vr vd rs ds gs ps ps [] []) := by
  obtain ⟨vs, e2, hV⟩ := h.toV
  obtain ⟨q, hq, hqv⟩ := hV.gv hgi
  have hqp : q.p = p := by
    have := hpi
    rw [← e2, List.getElem?_map, hq] at this
    exact Option.some.inj this
  have HE2 := Lib.hid e2
  have HDA := Lib.hid hV
  have HDS : Hid (SeatAt w g m v) := hV.seat hgi
  have HGi := Lib.hid hgi
  have HPi := Lib.hid hpi
  have HQ := Lib.hid hq
  have HMe : Hid (∀ W, AlV w0 W bb R vr vd rs ds gs ps vs [] [] → Calls Tryz.prog 30 #[.pointer (some ⟨g, 0, none⟩)] W fun e w' => e = .returned (.bool true) ∧ Below W.heap.size W w') := fun W hW => by
    have := hW.al
    rw [HE2.out] at this
    exact m_meter this HGi.out HPi.out HPi.out
  have HK1 : Hid (∀ W, AlV w0 W bb R vr vd rs ds gs ps vs [] [] → Calls Tryz.prog 31 #[.pointer (some ⟨m, 0, none⟩)] W fun e w' => e = .returned (.int .i64 (cnt p.M : Int)) ∧ w' = W) := fun W hW => c_kept hW.al HGi.out HPi.out
  have HK2 : Hid (∀ W, AlV w0 W bb R vr vd rs ds gs ps vs [] [] → Calls Tryz.prog 32 #[.pointer (some ⟨v, 0, none⟩)] W fun e w' => e = .returned (.int .i64 (cnt p.M : Int)) ∧ w' = W) := fun W hW => by
    have := hW.al
    rw [HE2.out] at this
    exact d_kept hB this HGi.out HPi.out
  obtain ⟨vv, base, vp, pq, pp⟩ := q
  have hqv' : vv = v := hqv
  have hqp' : pp = p := hqp
  clear hqv hqp
  subst hqv' hqp'
  have hfm := (hV.vm hq).1
  obtain ⟨a1, cc, hvp0, -⟩ := hfm.2.2.1.form
  have hlen0 := hfm.pn.len
  obtain ⟨N, hN⟩ : ∃ N, pq.length = N := ⟨_, rfl⟩
  have hvp : vp = .slice a1 pq.length cc := hvp0
  have hlen : pq.length ≤ 2097153 := hlen0
  clear hvp0 hlen0
  rw [hN] at hvp hlen
  have HN := Lib.hid hN
  subst hvp
  clear h e2 hV hgi hpi hq hfm hN
  obtain ⟨s0, s1⟩ := HDS.out.cells
  have HA0 := Lib.hid (HDA.out.low ((Below.refl _ w).drew)).1
  have HT0 : Hid (SeatAt w.drew g m vv) := HDS.out
  have HSz := Lib.hid (show w.drew.cell? ⟨g, 0, none⟩ = some (.pointer (some ⟨m, 0, none⟩)) ∧ w.drew.cell? ⟨g, 1, none⟩ = some (.pointer (some ⟨vv, 0, none⟩)) from ⟨s0, s1⟩)
  go_enter Tryz.func8, Tryz.ntmps8
  go_upto_region 1 with fail
  go_cut [23] (fun y wx => y = .bool false ∧ Hid (AlV w0 wx bb R vr vd rs ds gs ps vs [] [] ∧ SeatAt wx g m vv))
  case first =>
    go_region_held3 (fun wx => wx.cell? ⟨g, 0, none⟩ = some (.pointer (some ⟨m, 0, none⟩)) ∧ wx.cell? ⟨g, 1, none⟩ = some (.pointer (some ⟨vv, 0, none⟩))) (first | exact HSx.out | exact HSz.out | go_keep)
      (first | (go_at_call 30; refine (HMe.out _ HA0.out).mono ?_; rintro e x1 ⟨rfl, hb1⟩; have HAx := Lib.hid (HA0.out.low hb1).1; have HTx := Lib.hid (HT0.out.below hb1); have HSx := Lib.hid (show x1.cell? ⟨g, 0, none⟩ = some (.pointer (some ⟨m, 0, none⟩)) ∧ x1.cell? ⟨g, 1, none⟩ = some (.pointer (some ⟨vv, 0, none⟩)) from HTx.out.cells); obtain ⟨y0, y1⟩ := HSx.out) | (go_at_call 31; refine (HK1.out _ HAx.out).mono ?_; rintro e w' ⟨rfl, hw⟩; have hw := hw.symm; subst hw) | (go_at_call 32; refine (HK2.out _ HAx.out).mono ?_; rintro e w' ⟨rfl, hw⟩; have hw := hw.symm; subst hw))
    all_goals
      go_wp2_with fail
      go_meet
      exact ⟨rfl, HAx.out, HTx.out⟩
  case rest =>
    obtain ⟨rfl, HR⟩ := hcut
    have HRA := Lib.hid HR.out.1
    have HRS := Lib.hid HR.out.2
    clear HR HA0 HT0 HSz s0 s1 HDA HDS HMe HK1 HK2
    go_wp2_with fail
    go_loopw [5] (fun iv wr => ∃ j : Nat, j ≤ N ∧ iv = .int .i64 (j : Int) ∧ Hid (AlV w0 wr bb R vr vd rs ds gs ps vs [] [] ∧ SeatAt wr g m vv)) (fun iv _ => N - (intOf iv).toNat)
    case atStart => exact ⟨0, Nat.zero_le _, rfl, HRA.out, HRS.out⟩
    case round =>
      obtain ⟨j, hj, rfl, HI⟩ := hrel
      have HDA := Lib.hid HI.out.1
      have HDS := Lib.hid HI.out.2
      clear HI HRA HRS
      obtain ⟨s0, s1⟩ := HDS.out.cells
      obtain ⟨_, _, v2, _⟩ := (HDA.out.vm HQ.out).1.2.1.cells
      by_cases hlt : j < N
      · have ji : (j : Int) < (N : Int) := by omega
        have hw1 : IntKind.i64.wrap ((j : Int) + 1) = ((j + 1 : Nat) : Int) := by rw [IntKind.wrap_i64]; omega
        have hjl : j < pq.length := by rw [HN.out]; exact hlt
        obtain ⟨rg, hal, d0, cq, d1⟩ := (HDA.out.vm HQ.out).1.2.2.1.cell j hjl
        subst hal
        obtain ⟨x, hx⟩ : ∃ x, x = pq[j] := ⟨_, rfl⟩
        have HXm : Hid (x ∈ pq) := hx ▸ List.getElem_mem hjl
        have HX := Lib.hid hx
        rw [← hx] at d0 d1
        obtain ⟨pg, hpg⟩ : ∃ pg : Nat, x.1 = (pg : Int) := ⟨x.1.toNat, by have := ((HDA.out.vm HQ.out).1.pn.2 x HXm.out).1; omega⟩
        have HPg := Lib.hid hpg
        have hpb : pg < 1048576 := by have := og_lt hB ((HDA.out.vm HQ.out).2 x HXm.out); omega
        rw [hpg] at d0
        clear hx hpg d1
        have hon : ∀ t : Nat, t < 4096 → On (rs ++ ds) (((pg * 4096 : Nat) : Int) + t) := fun t ht => by
          have := (HDA.out.vm HQ.out).2 x HXm.out t ht
          rw [HPg.out] at this
          simpa using this
        obtain ⟨r1, r2, r3, r4⟩ := readP_on (p := pp) hon
        have HC1 : Hid (∀ W, AlV w0 W bb R vr vd rs ds gs ps vs [] [] → Calls Tryz.prog 33 #[.pointer (some ⟨m, 0, none⟩), .int .u64 ((pg * 4096 : Nat) : Int), .int .i64 4096] W fun e w' => ∃ la ln lc, e = .returned (.tuple #[.slice la ln lc, .agg #[.int .i64 0, .int .u64 0]]) ∧ Hid (AlV w0 w' bb R vr vd rs ds gs ps vs [(.slice la ln lc, bytesAt pp.M (pg * 4096) 4096)] []) ∧ Hid (Bt W w')) := fun W hW => by
          have := c_readV hW HGi.out HPi.out (a := pg * 4096) (n := ((4096 : Nat) : Int)) (by omega) (hpk.mono (by omega)) (by omega)
          rw [r1, r2, r3, r4, set_same HPi.out] at this
          exact this
        clear r1 r2 r3 r4 hon
        have hwm : IntKind.u64.wrap ((pg : Int) * 4096) = ((pg * 4096 : Nat) : Int) := by rw [IntKind.wrap_u64]; omega
        have HSf : Hid (∀ W H, AlV w0 W bb R vr vd rs ds gs ps vs H [] → SeatAt W g m vv → W.cell? ⟨g, 0, none⟩ = some (.pointer (some ⟨m, 0, none⟩)) ∧ W.cell? ⟨g, 1, none⟩ = some (.pointer (some ⟨vv, 0, none⟩)) ∧ W.cell? ⟨vv, 2, none⟩ = some (.slice (some ⟨rg, 0, none⟩) N cc) ∧ W.cell? ⟨rg, j * 2, none⟩ = some (.int .u64 (pg : Int))) := fun W H hW hS => by
          have hm := hW.vm HQ.out
          obtain ⟨rg', e3, d0', _⟩ := hm.1.2.2.1.cell j hjl
          have e3 : rg' = rg := by
            have := (Option.some.inj e3)
            exact (Addr.mk.inj this).1.symm
          subst e3
          refine ⟨hS.cells.1, hS.cells.2, hm.1.2.1.cells.2.2.1, ?_⟩
          rw [d0', ← HX.out, HPg.out]
        generalize hA : pg * 4096 = A at HC1 hwm
        have HA := Lib.hid hA
        clear hA
        go_wp2_with fail
        have hgl := HDS.out.lt
        have hRl := HDA.out.R_lt
        have hne1 : g ≠ wr.heap.size := Nat.ne_of_lt hgl
        have hbd : Below wr.heap.size wr wr.drew := (Below.refl _ _).drew
        have hbx : Below wr.heap.size wr (wr.alloc (Obj.cells #[.int .i64 0, .int .u64 0] 71)).drew := ((Below.refl _ _).alloc (Nat.le_refl _) _).drew
        have HA0 := Lib.hid (HDA.out.low hbd).1
        have HS0 := Lib.hid (HDS.out.below hbd)
        have HAb := Lib.hid (HDA.out.low hbx).1
        have HSb := Lib.hid (HDS.out.below hbx)
        have HFb : Hid (BoxF (wr.alloc (Obj.cells #[.int .i64 0, .int .u64 0] 71)).drew wr.heap.size 0 0) := BoxF.new wr 0 0
        have HSz := Lib.hid (HSf.out _ _ HA0.out HS0.out)
        clear hbd hbx
        go_cut [6, 7] (fun y z wx => ∃ la ln lc b1, y = .slice la ln lc ∧ z = .pointer (some ⟨b1, 0, none⟩) ∧ Hid (BoxF wx b1 0 0 ∧ AlV w0 wx bb R vr vd rs ds gs ps vs [(.slice la ln lc, bytesAt pp.M A 4096)] [] ∧ SeatAt wx g m vv))
        case first =>
          go_region_held3 (fun wx => wx.cell? ⟨g, 0, none⟩ = some (.pointer (some ⟨m, 0, none⟩)) ∧ wx.cell? ⟨g, 1, none⟩ = some (.pointer (some ⟨vv, 0, none⟩)) ∧ wx.cell? ⟨vv, 2, none⟩ = some (.slice (some ⟨rg, 0, none⟩) N cc) ∧ wx.cell? ⟨rg, j * 2, none⟩ = some (.int .u64 (pg : Int))) (first | exact HS9.out | exact HS1.out | exact HSz.out | go_keep) (first | (go_at_call 33; refine (HC1.out _ HA0.out).mono ?_; rintro e x1 ⟨la, ln, lc, rfl, HAx, HBx⟩; have HSx := Lib.hid (HS0.out.bt HBx.out); have HS1 := Lib.hid (HSf.out _ _ HAx.out HSx.out); have hgx := HSx.out.lt; have hRx := HAx.out.R_lt; obtain ⟨y0, y1, y2, y3⟩ := HS1.out) | (go_at_call 33; refine (HC1.out _ HAb.out).mono ?_; rintro e x1 ⟨la, ln, lc, rfl, HAx, HBx⟩; have HSx := Lib.hid (HSb.out.bt HBx.out); have HFx := Lib.hid (HFb.out.bt HBx.out); obtain ⟨f0, f1, f2, f3⟩ := HFx.out.cells; have hfx := HFx.out.lt; have HAy := Lib.hid (HAx.out.box HFx.out (.inl rfl) (Nat.le_of_lt hRl) (Keeps.two x1 wr.heap.size (.int .i64 0) (.int .u64 0))); have HSy := Lib.hid (HSx.out.keep1 (Keeps.two x1 wr.heap.size (.int .i64 0) (.int .u64 0)) hne1); have HS9 := Lib.hid (HSf.out _ _ HAy.out HSy.out); have HS1 := Lib.hid (HSf.out _ _ HAx.out HSx.out); have hgx := HSx.out.lt; have hRx := HAx.out.R_lt; obtain ⟨y0, y1, y2, y3⟩ := HS1.out))
          all_goals
            go_wp2_with fail
            go_meet
            first
              | exact ⟨la, ln, lc, _, rfl, rfl, BoxF.new x1 0 0, (HAx.out.low ((Below.refl _ _).alloc (Nat.le_refl _) _)).1, HSx.out.below ((Below.refl _ _).alloc (Nat.le_refl _) _)⟩
              | exact ⟨la, ln, lc, _, rfl, rfl, HFx.out.set 0 0, HAy.out, HSy.out⟩
        case rest =>
          obtain ⟨la, ln, lc, b1, rfl, rfl, HR⟩ := hcut
          have HF3 := Lib.hid HR.out.1
          have HEA := Lib.hid HR.out.2.1
          have HES := Lib.hid HR.out.2.2
          clear HR HA0 HS0 HAb HSb HFb HSz s0 s1 hgl hRl hne1 HC1 HDA HDS v2 d0
          obtain ⟨f0, f1, _, _⟩ := HF3.out.cells
          obtain ⟨s0, s1, v2, d0⟩ := HSf.out _ _ HEA.out HES.out
          obtain ⟨rg', e3, _, cr, d1⟩ := (HEA.out.vm HQ.out).1.2.2.1.cell j hjl
          have e4 : rg = rg' := (Addr.mk.inj (Option.some.inj e3)).1
          subst e4
          rw [← HX.out] at d1
          have HSa : Hid (Calls Tryz.prog 34 #[.slice la ln lc, .slice (some ⟨x.2, 0, none⟩) 4096 cr] wc fun e w' => e = .returned (.bool true) ∧ Below wc.heap.size wc w') := by
            have hown := (HEA.out.own (List.mem_singleton.2 rfl)).1
            have hp8 := ((HEA.out.vm HQ.out).1.2.2.2.1 x HXm.out).2
            rw [HPg.out, Int.toNat_natCast] at hp8
            obtain ⟨gq, cap, cur, e5, _, hg5, _, _, _, h9⟩ : ∃ gq cap cur, (Value.slice la ln lc : Value) = .slice (some ⟨gq, 0, none⟩) (bytesAt pp.M A 4096).length cap ∧ bb ≤ gq ∧ wc.heap[gq]? = some (.cells cur 5 (0, 0)) ∧ (bytesAt pp.M A 4096).length ≤ cap ∧ cap ≤ maxLen ∧ cur.size = cap * 1 ∧ cur.toList.take ((bytesAt pp.M A 4096).length * 1) = bvs (bytesAt pp.M A 4096) := by
              rcases hown.2 with ⟨_, h0⟩ | h1
              · rw [bytesAt_length] at h0
                omega
              · exact h1
            rw [bytesAt_length] at e5
            injection e5 with e6 e7 e8
            rw [e6, e7, e8]
            have hget : ∀ t, t < 4096 → (bytesAt pp.M A 4096).getD t 0 = pp.M (A + t) := fun t ht => by
              rw [List.getD_eq_getElem?_getD, bytesAt_get _ _ _ _ ht]
              rfl
            refine same_y (L := bytesAt pp.M A 4096) (fun t ht => ⟨gq, rfl, (Array.getElem?_eq_some_iff.1 hg5).1, ?_⟩) (fun t ht => ⟨x.2, rfl, hp8.lt, ?_⟩) (by omega)
            · rw [cell_of_row wc gq t _ _ _ hg5, ← Array.getElem?_toList]
              have : (cur.toList.take ((bytesAt pp.M A 4096).length * 1))[t]? = (bvs (bytesAt pp.M A 4096))[t]? := by rw [h9]
              rw [List.getElem?_take_of_lt (by rw [bytesAt_length]; omega), bvs_get _ _ (by rw [bytesAt_length]; exact ht)] at this
              exact this
            · rw [hget t ht, ← HA.out]
              exact hp8.cell t ht
          have hRl := HEA.out.R_lt
          go_wp2_with fail
          refine HSa.out.mono ?_
          rintro e w5 ⟨rfl, hb5⟩
          have HA5 := Lib.hid (HEA.out.low hb5).1
          have HS5 := Lib.hid (HES.out.below hb5)
          have hR5 := HA5.out.R_lt
          have HKp := Lib.hid (k_bytesV HA5.out)
          clear hb5 HSa HEA HES HF3 f0 f1 s0 s1 v2 d0 d1 hRl
          go_wp2_with fail
          refine HKp.out.mono ?_
          rintro e w6 ⟨rfl, HA6, HB6⟩
          have HS6 := Lib.hid (HS5.out.bt HB6.out)
          clear HKp HA5 HS5 HB6 HSf
          go_wp2_with fail
          exact ⟨⟨j + 1, by omega, rfl, HA6.out, HS6.out⟩, by simp [intOf]; omega⟩
      · go_wp2_with fail
        go_ret
        have := HDA.out.al
        rw [HE2.out] at this
        exact ⟨rfl, this⟩
end Go.Proofs.YtddgoncbdlhhhaaGreat
/- BusPlays: the state at its beginning, and its end. Own work. -/
namespace Go.Proofs.YtddgoncbdlhhhaaGreat
open Go.RowKit Go.Maps Go.Proofs.YtddgoncbdlhhhaaGreat.Sp Wk
set_option linter.unusedVariables false
theorem stakeW_page {most : Int} : ∀ (rs pre : List Sp), Fits 18446744073709551615 rs → stakeW most pre rs = 0 → ∀ r ∈ rs, 0 ≤ r.1 ∧ r.1 % 4096 = 0 ∧ r.2 % 4096 = 0
  | [], _, _, _, _, hr => by cases hr
  | r :: l, pre, hf, h, x, hx => by
    rw [stakeW] at h
    by_cases h0 : refuse1 pre r.1 r.2 most = 0
    · rw [if_pos h0] at h
      rcases List.mem_cons.1 hx with rfl | hx
      · obtain ⟨_, h2, _, h4, _⟩ := refuse1_parts h0
        exact ⟨(hf x (List.mem_cons_self ..)).1, h4, h2⟩
      · exact stakeW_page l (pre ++ [r]) (fun x hx => hf x (List.mem_cons_of_mem _ hx)) h x hx
    · rw [if_neg h0] at h
      exact absurd h h0
theorem refW_pgd {rs ds : List Sp} (fr : Fits 18446744073709551615 rs) (fd : Fits 18446744073709551615 ds) (h : refW rs ds = 0) : ∀ r ∈ rs ++ ds, 0 ≤ r.1 ∧ r.1 % 4096 = 0 ∧ r.2 % 4096 = 0 := by
  by_cases hl : 8 < rs.length ∨ 32 < ds.length
  · rw [refW, if_pos hl] at h; omega
  · rw [refW, if_neg hl] at h
    by_cases h1 : stakeW 18446744073709551615 [] rs = 0
    · by_cases h2 : stakeW 1048576 rs ds = 0
      · intro x hx
        rcases List.mem_append.1 hx with hx | hx
        · exact stakeW_page rs [] fr h1 x hx
        · exact stakeW_page ds rs fd h2 x hx
      · simp [h1, h2] at h
    · simp [h1] at h
/-- the row of one seat -/
theorem al_first {w0 W2 w3 W : World} {R sg sb m v B : Nat} {V : Value × Value × Value} {vr vd : Value} {rs ds : List Sp} (h0 : w0.heap.size ≤ W2.heap.size) (hb0 : Below w0.heap.size w0 W) (hm : Mac W2 m B V (fun _ => none) (fun _ => 0) rs ds 0 0 0) (hj : ∀ j, Mine m B V (fun _ => none) j → w0.heap.size ≤ j) (h3 : Below W2.heap.size W2 w3) (hv : RBox w3 v vr vd (.slice none 0 0) 0 0 0) (hvl : W2.heap.size ≤ v) (hW : Below w3.heap.size w3 W) (hsg : W.heap[sg]? = some (.cells #[.pointer (some ⟨m, 0, none⟩), .pointer (some ⟨v, 0, none⟩)] 39 (0, 0))) (hsb : W.heap[sb]? = some (.cells #[.pointer (some ⟨sg, 0, none⟩)] 35 (0, 0))) (hbs : W2.heap.size ≤ sb) (hR : W.heap[R]? = some (.cells #[.slice (some ⟨sb, 0, none⟩) 1 1, .slice none 0 0, .slice none 0 0, .int .i64 0, .bool false, .slice none 0 0, .slice none 0 0, .int .i64 0, .bool false] 48 (0, 0))) (hRl : W2.heap.size ≤ R) :
    Al w0 W W2.heap.size R vr vd rs ds [(sg, m, v)] [⟨fun _ => 0, 0, 0, 0⟩] [⟨fun _ => 0, 0, 0, 0⟩] [] [] := by
  have hb : Below W2.heap.size W2 W := h3.trans (hW.mono h3.size)
  have hmW := hm.below hb
  have hvW := hv.below hW
  have hml : ∀ j, Mine m B V (fun _ => none) j → j < W2.heap.size := fun j hj => hm.mine_lt hj
  obtain ⟨G, _, _, _, _, _, _, _, _, _, hnm, hnv⟩ := hm
  refine ⟨fun j => if j = m ∨ j = B then 10 else if j = v then 11 else 0, [⟨m, B, V, fun _ => none, ⟨fun _ => 0, 0, 0, 0⟩⟩], [⟨v, W2.heap.size, .slice none 0 0, [], ⟨fun _ => 0, 0, 0, 0⟩⟩], .slice (some ⟨sb, 0, none⟩) 1 1, .slice none 0 0, .slice none 0 0, 0, .slice none 0 0, .slice none 0 0, 0, [], [], ⟨hb0, ⟨h0, hRl⟩, fun i g m' v' e => ?_, fun i b e => ?_, fun i q e => ?_, rfl, rfl, bk_new hR, bkG_new hR, ⟨by simp, by simp⟩, fun k hk => (by cases hk), ?_, fun x hx => (by cases hx), fun x hx => (by cases hx), List.Pairwise.nil⟩, rfl, rfl⟩
  · cases i with
    | zero =>
      cases Option.some.inj e
      exact hsg
    | succ i => cases e
  · cases i with
    | zero =>
      cases Option.some.inj e
      refine ⟨hmW, fun j hj' => ?_, fun u hu j e' => ?_⟩
      · have hB : j = m ∨ j = B := by
          rcases hj' with q | q
          · exact .inl q
          · rcases q with q | ⟨_, q⟩
            · exact .inr q
            · cases q
        exact ⟨if_pos hB, hj j (hj'.elim .inl (fun q => .inr (.inl q)))⟩
      · obtain ⟨n1, n2⟩ := hnv u hu j e'
        have hl := hml j (.inr (.inr ⟨u, hu, e'⟩))
        left
        refine ⟨?_, hl⟩
        have hnB : ¬ (j = m ∨ j = B) := fun q => q.elim n2 (fun q => n1 (.inl q))
        show (if j = m ∨ j = B then 10 else if j = v then 11 else 0) = 0
        rw [if_neg hnB, if_neg (by omega)]
    | succ i => cases e
  · cases i with
    | zero =>
      cases Option.some.inj e
      refine ⟨⟨hvl, hvW, OwnP.nil _ _, fun x hx => (by cases hx), Pn.nil, List.nodup_nil, fun _ => (by show (0 : Nat) < 256; omega), fun _ _ => rfl⟩, fun j hj' => ?_, ⟨h0, hb.size⟩, fun x hx => (by cases hx)⟩
      rcases hj' with q | q | ⟨x, hx, _⟩
      · have q : j = v := q
        subst q
        have hm1 := hml m (.inl rfl)
        have hm2 := hml B (.inr (.inl (.inl rfl)))
        show (if j = m ∨ j = B then 10 else if j = j then 11 else 0) = 11
        rw [if_neg (by omega), if_pos rfl]
      · cases q
      · cases hx
    | succ i => cases e
  · exact .inr ⟨sb, 0, 1, _, rfl, hbs, hsb, Nat.le_refl _, by unfold maxLen; omega, rfl, rfl⟩
/-- the end: both books are apart -/
theorem a_bytes {w0 w : World} {bb R : Nat} {vr vd : Value} {rs ds : List Sp} {gs : List (Nat × Nat × Nat)} {pb pv : List Ps} (h : Al w0 w bb R vr vd rs ds gs pb pv [] []) : Calls Tryz.prog 9 #[.pointer (some ⟨R, 1, none⟩), .func (.func 10) #[] #[]] w fun e w' => e = .returned (.bool true) ∧ Hid (Below w0.heap.size w0 w' ∧ R < w'.heap.size ∧ w0.heap.size ≤ R ∧ w0.heap.size ≤ bb ∧ ∃ a b c d e lr wr hd2 F, BkG a b c d e w' bb R lr wr hd2 F ∧ F.length ≤ 4000) := by
  obtain ⟨col, bs, vs, sv, lv, wv, hd, lr, wr, hd2, E, F, h, e1, e2⟩ := h
  refine (bk_apart h.bk h.e4.1).mono ?_
  rintro e w' ⟨rfl, hk, hblk⟩
  have hz : ∀ j cur t, w.heap[j]? = some (.cells cur t (0, 0)) → t ≠ 48 → t ≠ 5 → ¬ (j = R ∨ ∃ e ∈ E, e.lv.ownBlock = some j) := fun j cur t hj t1 t2 hZ => by
    rcases hZ with q | ⟨x, hx, q⟩
    · subst q
      rw [h.bk.blk] at hj
      cases hj
      exact t1 rfl
    · obtain ⟨c2, q2⟩ := (h.bk.ents x hx).l.tagB j q
      rw [q2] at hj
      cases hj
      exact t2 rfl
  refine ⟨rfl, h.below.trans (hk.below h.below.size (fun j _ hZ => ?_)), Nat.lt_of_lt_of_le h.R_lt hk.size, Nat.le_trans h.bbl.1 h.bbl.2, h.bbl.1, sv, .slice none 0 0, .slice none 0 0, .int .i64 0, .bool false, lr, wr, hd2, F, ⟨hblk, h.bg.lrow.keeps hk (fun j e => ?_), h.bg.wrow.keeps hk (fun j e => ?_), h.bg.ne, fun x hx => ⟨(h.bg.ents x hx).l.keeps hk (fun j e => ?_), (h.bg.ents x hx).w.keeps hk (fun j e => ?_), (h.bg.ents x hx).sm⟩, h.bg.nodup⟩, h.e4.2⟩
  · have := h.bbl
    rcases hZ with q | ⟨x, hx, q⟩
    · omega
    · have := ((h.bk.ents x hx).l.lt j q).1
      omega
  · obtain ⟨cur, q⟩ := h.bg.lrow.tag j e
    exact hz j cur _ q (by decide) (by decide)
  · obtain ⟨cur, q⟩ := h.bg.wrow.tag j e
    exact hz j cur _ q (by decide) (by decide)
  · obtain ⟨cur, q⟩ := (h.bg.ents x hx).l.tag j e
    exact hz j cur _ q (by decide) (by decide)
  · obtain ⟨cur, q⟩ := (h.bg.ents x hx).w.tag j e
    exact hz j cur _ q (by decide) (by decide)
theorem a_ranges {w0 w : World} {bb R : Nat} {a b c d e lr wr : Value} {hd2 : Int} {F : List EntG} (hb : Below w0.heap.size w0 w) (h0 : w0.heap.size ≤ R) (hbb : w0.heap.size ≤ bb) (h : BkG a b c d e w bb R lr wr hd2 F) (hl : F.length ≤ 4000) : Calls Tryz.prog 11 #[.pointer (some ⟨R, 5, none⟩), .func (.func 12) #[] #[]] w fun e w' => e = .returned (.bool true) ∧ Below w0.heap.size w0 w' := by
  refine (bkG_apart h hl).mono ?_
  rintro e w' ⟨rfl, hk⟩
  refine ⟨rfl, hb.trans (hk.below hb.size (fun j _ hZ => ?_))⟩
  rcases hZ with q | ⟨x, hx, q⟩
  · omega
  · have := ((h.ents x hx).l.lt j q).1
    omega
end Go.Proofs.YtddgoncbdlhhhaaGreat
/- BusPlays: the law. Own work. -/
namespace Go.Proofs.YtddgoncbdlhhhaaGreat
open Go.RowKit Go.Maps Go.Proofs.YtddgoncbdlhhhaaGreat.Sp Wk
set_option linter.unusedVariables false
/-- a step of a script -/
structure Op6 where
  kd : Int
  who : Int
  a : Nat
  n : Int
  val : Nat
  pa : Option Addr
  pc : Nat
  zs : List Nat
/-- a script as it came in -/
def OpsB (w : World) (sa : Option Addr) (L : List Op6) : Prop := ∀ j (x : Op6), L[j]? = some x → ∃ b o, sa = some ⟨b, o, none⟩ ∧ (w.cell? ⟨b, o + j * 6, none⟩ = some (.int .i64 x.kd) ∧ w.cell? ⟨b, o + j * 6 + 1, none⟩ = some (.int .i64 x.who) ∧ w.cell? ⟨b, o + j * 6 + 2, none⟩ = some (.int .u64 (x.a : Int)) ∧ w.cell? ⟨b, o + j * 6 + 3, none⟩ = some (.int .i64 x.n) ∧ w.cell? ⟨b, o + j * 6 + 4, none⟩ = some (.int .u64 (x.val : Int)) ∧ w.cell? ⟨b, o + j * 6 + 5, none⟩ = some (.slice x.pa x.zs.length x.pc)) ∧ Sl w (.slice x.pa x.zs.length x.pc) x.zs ∧ x.a ≤ 18446744073709551615 ∧ x.n ≤ 9223372036854775807 ∧ x.val ≤ 18446744073709551615
theorem OpsB.below {w w' : World} {sa : Option Addr} {L : List Op6} (h : OpsB w sa L) (hb : Below w.heap.size w w') : OpsB w' sa L := fun j x hj => by
  obtain ⟨b, o, e, ⟨c0, c1, c2, c3, c4, c5⟩, hs, r⟩ := h j x hj
  have c : ∀ i u, w.cell? ⟨b, i, none⟩ = some u → w'.cell? ⟨b, i, none⟩ = some u := fun i u hc => (World.cell?_of_block (a := ⟨b, i, none⟩) (hb.block b (World.block_lt_of_cell? w _ hc))).trans hc
  exact ⟨b, o, e, ⟨c _ _ c0, c _ _ c1, c _ _ c2, c _ _ c3, c _ _ c4, c _ _ c5⟩, hs.below hb, r⟩
theorem three_new (w : World) (a b c : Obj) : (((w.alloc a).alloc b).alloc c).heap[w.heap.size]? = some a ∧ (((w.alloc a).alloc b).alloc c).heap[w.heap.size + 1]? = some b ∧ (((w.alloc a).alloc b).alloc c).heap[w.heap.size + 2]? = some c := by
  have e1 : (w.alloc a).heap.size = w.heap.size + 1 := by simp
  have e2 : ((w.alloc a).alloc b).heap.size = w.heap.size + 2 := by simp
  refine ⟨?_, ?_, ?_⟩
  · exact ((((Below.refl _ (w.alloc a)).alloc (Nat.le_refl _) b).alloc (by simp) c).block _ (by omega)).trans (heap_alloc_new w a)
  · have := heap_alloc_new (w.alloc a) b
    rw [e1] at this
    exact (((Below.refl _ ((w.alloc a).alloc b)).alloc (Nat.le_refl _) c).block _ (by omega)).trans this
  · have := heap_alloc_new ((w.alloc a).alloc b) c
    rw [e2] at this
    exact this
set_option maxRecDepth 100000 in
set_option maxHeartbeats 8000000 in
theorem plays_bus {w : World} {vr vd : Value} {rs ds : List Sp} {sa : Option Addr} {sc : Nat} {L : List Op6} (hr : U64.SV w vr rs) (hd : U64.SV w vd ds) (fr : Fits 18446744073709551615 rs) (fd : Fits 18446744073709551615 ds) (hL : OpsB w sa L) (hLc : L.length ≤ sc) (hsc : sc ≤ maxLen) :
    Calls Tryz.prog 3 #[.agg #[vr, vd], .slice sa L.length sc] w fun e w' => e = .returned (.bool true) ∧ Below w.heap.size w w' := by
  have HR : Hid (U64.SV w vr rs) := hr
  have HD : Hid (U64.SV w vd ds) := hd
  have HFr : Hid (Fits 18446744073709551615 rs) := fr
  have HFd : Hid (Fits 18446744073709551615 ds) := fd
  have HMd : Hid (rs.length ≤ 8796093022000 → ds.length ≤ 8796093022000 → ∀ W, Below w.heap.size w W → Calls Tryz.prog 5 #[.agg #[vr, vd]] W fun e w' => ∃ pm, e = .returned (.tuple #[.pointer pm, .bool true]) ∧ Hid (Below W.heap.size W w') ∧ Hid (MadeR W.heap.size w' pm rs ds)) := fun hl hl2 W hW => made_any (HR.out.below hW (Nat.le_refl _)) (HD.out.below hW (Nat.le_refl _)) HFr.out HFd.out hl hl2
  have HOp : Hid (∀ W, Below w.heap.size w W → OpsB W sa L) := fun W hW => hL.below hW
  have HOp0 := Lib.hid hL
  obtain ⟨ar, cr, rfl, g1, g2, hq1⟩ := hr
  obtain ⟨ad, cd, rfl, g3, g4, hq2⟩ := hd
  unfold maxLen at g2 g4 hsc
  clear hq1 hq2 fr fd hL
  obtain ⟨N, hN⟩ : ∃ N, L.length = N := ⟨_, rfl⟩
  have HN := Lib.hid hN
  rw [hN] at hLc ⊢
  clear hN
  obtain ⟨W0, hW0⟩ : ∃ W0, w.alloc (Obj.cells #[.slice ar rs.length cr, .slice ad ds.length cd] 24) = W0 := ⟨_, rfl⟩
  have HB0 : Hid (Below w.heap.size w W0) := hW0 ▸ (Below.refl _ _).alloc (Nat.le_refl _) _
  have HX0 : Hid (BoxB W0 w.heap.size (.slice ar rs.length cr) (.slice ad ds.length cd)) := hW0 ▸ heap_alloc_new w _
  have HBy : Hid (Calls Tryz.prog 4 #[.slice (some ⟨W0.heap.size, 0, none⟩) 2 2] (W0.alloc (Obj.cells #[.int .i64 (rs.length : Int), .int .i64 (ds.length : Int)] 3)) fun e w' => e = .returned (.bool (beyB rs.length ds.length)) ∧ w' = W0.alloc (Obj.cells #[.int .i64 (rs.length : Int), .int .i64 (ds.length : Int)] 3)) := beyond2_any ⟨by omega, by omega⟩ ⟨by omega, by omega⟩ (by rw [cell_of_row _ _ _ _ _ _ (heap_alloc_new W0 _)]; rfl) (by rw [cell_of_row _ _ _ _ _ _ (heap_alloc_new W0 _)]; rfl)
  go_enter Tryz.func3, Tryz.ntmps3
  go_wp2_with fail
  try rw [hW0]
  clear hW0
  go_loopw [5, 6] (fun lf iv wr => ∃ j left : Nat, j ≤ N ∧ j + left ≤ 2147483647 ∧ lf = .int .i64 (left : Int) ∧ iv = .int .i64 (j : Int) ∧ wr = W0 ∧ Hid (∀ t x, t < j → L[t]? = some x → x.zs.length ≤ 2147483647)) (fun _ iv _ => N - (intOf iv).toNat)
  case atStart => exact ⟨0, 2147483647, Nat.zero_le _, by omega, rfl, rfl, rfl, fun t x ht => by omega⟩
  case round =>
    obtain ⟨j, left, hj, hjl, rfl, rfl, hwr, HZ⟩ := hrel
    have hwr := hwr.symm
    subst hwr
    by_cases hlt : j < N
    · have hjL : j < L.length := by rw [HN.out]; exact hlt
      obtain ⟨b, o, rfl, ⟨c0, c1, c2, c3, c4, c5⟩, hs, _⟩ := HOp.out W0 HB0.out j L[j] (List.getElem?_eq_getElem hjL)
      have hzm : L[j].zs.length ≤ 9223372036854775807 := by
        obtain ⟨_, _, e, h1, h2, _⟩ := hs
        have := h2
        unfold maxLen at this
        omega
      obtain ⟨zl, hzl⟩ : ∃ zl, L[j].zs.length = zl := ⟨_, rfl⟩
      have HZl := Lib.hid hzl
      obtain ⟨qa, hqa⟩ : ∃ qa, L[j].pa = qa := ⟨_, rfl⟩
      obtain ⟨qc, hqc⟩ : ∃ qc, L[j].pc = qc := ⟨_, rfl⟩
      rw [hzl, hqa, hqc] at c5
      rw [hzl] at hzm
      have ji : (j : Int) < (N : Int) := by omega
      have hw1 : IntKind.i64.wrap ((j : Int) + 1) = ((j + 1 : Nat) : Int) := by rw [IntKind.wrap_i64]; omega
      clear c0 c1 c2 c3 c4 hs hzl hqa hqc
      by_cases hge : left ≤ zl
      · have hgi : (left : Int) ≤ (zl : Int) := by omega
        have dgi : decide ((zl : Int) ≥ (left : Int)) = true := decide_eq_true hgi
        go_wp2_with fail
        go_ret
        exact ⟨rfl, HB0.out⟩
      · have hgi : ¬ (left : Int) ≤ (zl : Int) := by omega
        have dgi : decide ((zl : Int) ≥ (left : Int)) = false := decide_eq_false hgi
        have hw2 : IntKind.i64.wrap ((left : Int) - 1) = (left : Int) - 1 := by rw [IntKind.wrap_i64]; omega
        have hw3 : IntKind.i64.wrap ((left : Int) - 1 - (zl : Int)) = ((left - 1 - zl : Nat) : Int) := by rw [IntKind.wrap_i64]; omega
        go_wp2_with fail
        exact ⟨⟨j + 1, left - 1 - zl, by omega, by omega, by first | rfl | omega, (by first | rfl | trivial), (by first | rfl | trivial), fun t x ht hx => by
          by_cases e : t = j
          · subst e
            rw [List.getElem?_eq_getElem hjL] at hx
            rw [← Option.some.inj hx, HZl.out]
            omega
          · exact HZ.out t x (by omega) hx⟩, by simp [intOf]; omega⟩
    · obtain rfl : j = N := by omega
      have HZa : Hid (∀ (t : Nat) (x : Op6), L[t]? = some x → x.zs.length ≤ 2147483647) := fun t x hx => HZ.out t x (by have := (List.getElem?_eq_some_iff.1 hx).1; rw [HN.out] at this; exact this) hx
      have hN31 : j ≤ 2147483647 := by omega
      clear HZ hlt hjl
      obtain ⟨x0, x1, _, _⟩ := HX0.out.cells
      go_wp2_with fail
      refine HBy.out.mono ?_
      rintro e w1 ⟨rfl, hw1⟩
      have HB1 : Hid (Below w.heap.size w w1) := by rw [hw1]; exact HB0.out.alloc HB0.out.size _
      have HX1 : Hid (BoxB w1 w.heap.size (.slice ar rs.length cr) (.slice ad ds.length cd)) := by rw [hw1]; exact HX0.out.below ((Below.refl _ _).alloc (Nat.le_refl _) _)
      clear hw1 HBy HB0 HX0 x0 x1
      cases hby : beyB rs.length ds.length with
      | true =>
        go_wp2_with fail
        go_ret
        exact ⟨rfl, HB1.out⟩
      | false =>
        have hl : rs.length ≤ 8796093022000 := by have := of_decide_eq_false hby; omega
        have hl2 : ds.length ≤ 8796093022000 := by have := of_decide_eq_false hby; omega
        clear hby
        obtain ⟨x0, x1, _, _⟩ := HX1.out.cells
        go_wp2_with fail
        refine (HMd.out hl hl2 _ HB1.out).mono ?_
        rintro e w4 ⟨pm, rfl, HB4, HM4⟩
        have HBw4 : Hid (Below w.heap.size w w4) := HB1.out.trans (HB4.out.mono HB1.out.size)
        have HX4 : Hid (BoxB w4 w.heap.size (.slice ar rs.length cr) (.slice ad ds.length cd)) := HX1.out.below HB4.out
        clear x0 x1 HX1 HMd
        obtain ⟨x0, x1, _, _⟩ := HX4.out.cells
        rcases HM4.out with ⟨h0, rfl⟩ | ⟨h0, m, B, V, rfl, hmac, hj⟩
        · clear h0 HM4
          go_wp2_with fail
          go_ret
          exact ⟨rfl, HBw4.out⟩
        · have HMac4 := Lib.hid hmac
          have HBo : Hid (BusOk w (.slice ar rs.length cr) (.slice ad ds.length cd) rs ds) := ⟨HR.out, HD.out, hmac.pair, by have := refW_len h0; omega, refW_pgd HFr.out HFd.out h0⟩
          have HMj : Hid (∀ j, Mine m B V (fun _ => none) j → w.heap.size ≤ j) := fun j hq => Nat.le_trans HB1.out.size (hj j hq)
          clear hmac hj h0 HM4 HB4
          go_wp2_with fail
          refine rnew_any.mono ?_
          rintro e w5 ⟨v, rfl, HV5, HB5⟩
          clear x0 x1
          go_upto_region 14 with fail
          obtain ⟨W6, hW6⟩ : ∃ W6, ((w5.alloc (Obj.cells #[.pointer (some ⟨m, 0, none⟩), .pointer (some ⟨v, 0, none⟩)] 39)).alloc (Obj.cells #[.pointer (some ⟨w5.heap.size, 0, none⟩)] 35)).alloc (Obj.cells #[.slice (some ⟨w5.heap.size + 1, 0, none⟩) 1 1, .slice none 0 0, .slice none 0 0, .int .i64 0, .bool false, .slice none 0 0, .slice none 0 0, .int .i64 0, .bool false] 48) = W6 := ⟨_, rfl⟩
          have HA6 : Hid (Al w W6 w4.heap.size (w5.heap.size + 2) (.slice ar rs.length cr) (.slice ad ds.length cd) rs ds [(w5.heap.size, m, v)] [⟨fun _ => 0, 0, 0, 0⟩] [⟨fun _ => 0, 0, 0, 0⟩] [] []) := by
            rw [← hW6]
            have z5 := HB5.out.1.size
            have b6 : Below w5.heap.size w5 (((w5.alloc (Obj.cells #[.pointer (some ⟨m, 0, none⟩), .pointer (some ⟨v, 0, none⟩)] 39)).alloc (Obj.cells #[.pointer (some ⟨w5.heap.size, 0, none⟩)] 35)).alloc (Obj.cells #[.slice (some ⟨w5.heap.size + 1, 0, none⟩) 1 1, .slice none 0 0, .slice none 0 0, .int .i64 0, .bool false, .slice none 0 0, .slice none 0 0, .int .i64 0, .bool false] 48)) := (((Below.refl _ _).alloc (Nat.le_refl _) _).alloc (by simp) _).alloc (by simp; omega) _
            have bw5 := HBw4.out.trans (HB5.out.1.mono HBw4.out.size)
            obtain ⟨k1, k2, k3⟩ := three_new w5 (Obj.cells #[.pointer (some ⟨m, 0, none⟩), .pointer (some ⟨v, 0, none⟩)] 39) (Obj.cells #[.pointer (some ⟨w5.heap.size, 0, none⟩)] 35) (Obj.cells #[.slice (some ⟨w5.heap.size + 1, 0, none⟩) 1 1, .slice none 0 0, .slice none 0 0, .int .i64 0, .bool false, .slice none 0 0, .slice none 0 0, .int .i64 0, .bool false] 48)
            exact al_first HBw4.out.size (bw5.trans (b6.mono bw5.size)) HMac4.out HMj.out HB5.out.1 HV5.out HB5.out.2 b6 k1 k2 (by omega) k3 (by omega)
          try rw [hW6]
          clear hW6 HV5 HB5 HMac4 HMj HX4 HBw4
          generalize w5.heap.size + 2 = R at *
          generalize w4.heap.size = bb at *
          generalize hv1 : (Value.slice ar rs.length cr) = vr at *
          generalize hv2 : (Value.slice ad ds.length cd) = vd at *
          have HSt : Hid (∀ (W : World) (gs : List (Nat × Nat × Nat)) (ps : List Ps) (k : Nat) (x : Op6), Al w W bb R vr vd rs ds gs ps ps [] [] → 0 < gs.length → gs.length ≤ 8 → (∀ p ∈ ps, Ps.le p k) → k ≤ 4000000000000000000 → x.a ≤ 18446744073709551615 → x.n ≤ 9223372036854775807 → x.val ≤ 18446744073709551615 → Sl w (.slice x.pa x.zs.length x.pc) x.zs → x.zs.length ≤ 2147483647 → Calls Tryz.prog 7 #[.pointer (some ⟨R, 0, none⟩), .agg #[.int .i64 x.kd, .int .i64 x.who, .int .u64 (x.a : Int), .int .i64 x.n, .int .u64 (x.val : Int), .slice x.pa x.zs.length x.pc]] W (StP w bb R vr vd rs ds (k + 2))) := fun W gs ps k x h1 h2 h3 h4 h5 h6 h7 h8 h9 h10 => step_any HBo.out h1 h2 h3 h4 h5 h6 h7 h8 h9 h10
          have HT1 : Hid (Calls Tryz.prog 7 #[.pointer (some ⟨R, 0, none⟩), .agg #[.int .i64 1, .int .i64 0, .int .u64 1099511627776, .int .i64 1, .int .u64 0, .slice none 0 0]] W6 (StP w bb R vr vd rs ds 2)) := HSt.out W6 _ _ 0 ⟨1, 0, 1099511627776, 1, 0, none, 0, []⟩ HA6.out (by simp) (by simp) (fun p hp => by obtain rfl := List.mem_singleton.1 hp; exact ⟨Nat.le_refl _, Nat.le_refl _, Nat.le_refl _⟩) (by omega) (by decide) (by decide) (by decide) (sl_nil _) (by decide)
          have HT2 : Hid (∀ W gs ps, Al w W bb R vr vd rs ds gs ps ps [] [] → 0 < gs.length → gs.length ≤ 8 → (∀ p ∈ ps, Ps.le p 2) → Calls Tryz.prog 7 #[.pointer (some ⟨R, 0, none⟩), .agg #[.int .i64 9, .int .i64 0, .int .u64 0, .int .i64 0, .int .u64 0, .slice none 0 0]] W (StP w bb R vr vd rs ds 4)) := fun W gs ps h1 h2 h3 h4 => HSt.out W gs ps 2 ⟨9, 0, 0, 0, 0, none, 0, []⟩ h1 h2 h3 h4 (by omega) (by decide) (by decide) (by decide) (sl_nil _) (by decide)
          have HT3 : Hid (∀ W gs ps, Al w W bb R vr vd rs ds gs ps ps [] [] → 0 < gs.length → gs.length ≤ 8 → (∀ p ∈ ps, Ps.le p 4) → Calls Tryz.prog 7 #[.pointer (some ⟨R, 0, none⟩), .agg #[.int .i64 10, .int .i64 0, .int .u64 0, .int .i64 0, .int .u64 0, .slice none 0 0]] W (StP w bb R vr vd rs ds 6)) := fun W gs ps h1 h2 h3 h4 => HSt.out W gs ps 4 ⟨10, 0, 0, 0, 0, none, 0, []⟩ h1 h2 h3 h4 (by omega) (by decide) (by decide) (by decide) (sl_nil _) (by decide)
          clear hv1 hv2 HR HD HFr HFd
          go_wp2_with fail
          refine HT1.out.mono ?_
          rintro e w7 ⟨rfl, gs7, ps7, HA7, a7, b7, c7⟩
          have HC7 : Hid (∀ p ∈ ps7, Ps.le p 2) := c7
          clear HT1 HA6 c7
          go_wp2_with fail
          refine (HT2.out _ _ _ HA7.out a7 b7 HC7.out).mono ?_
          rintro e w8 ⟨rfl, gs8, ps8, HA8, a8, b8, c8⟩
          have HC8 : Hid (∀ p ∈ ps8, Ps.le p 4) := c8
          clear HT2 HA7 HC7 c8 a7 b7
          go_wp2_with fail
          refine (HT3.out _ _ _ HA8.out a8 b8 HC8.out).mono ?_
          rintro e w9 ⟨rfl, gs9, ps9, HA9, a9, b9, c9⟩
          have HI9 : Hid (∃ gs ps, Al w w9 bb R vr vd rs ds gs ps ps [] [] ∧ 0 < gs.length ∧ gs.length ≤ 8 ∧ ∀ p ∈ ps, Ps.le p (6 + 2 * 0)) := ⟨gs9, ps9, HA9.out, a9, b9, c9⟩
          clear HT3 HA8 HC8 c9 a8 b8 HA9 a9 b9
          go_wp2_with fail
          go_loopw [10] (fun iv wr => ∃ t : Nat, t ≤ j ∧ iv = .int .i64 (t : Int) ∧ Hid (∃ gs ps, Al w wr bb R vr vd rs ds gs ps ps [] [] ∧ 0 < gs.length ∧ gs.length ≤ 8 ∧ ∀ p ∈ ps, Ps.le p (6 + 2 * t))) (fun iv _ => j - (intOf iv).toNat)
          case atStart => exact ⟨0, Nat.zero_le _, rfl, HI9⟩
          case round =>
            obtain ⟨t, ht, rfl, HI⟩ := hrel
            obtain ⟨gs, ps, hal, a1, b1, c1⟩ := HI.out
            have HA := Lib.hid hal
            have HC : Hid (∀ p ∈ ps, Ps.le p (6 + 2 * t)) := c1
            clear hal c1 HI HI9
            by_cases hlt : t < j
            · have htL : t < L.length := by rw [HN.out]; exact hlt
              obtain ⟨x, hx⟩ : ∃ x, x = L[t] := ⟨_, rfl⟩
              have hxs : L[t]? = some x := by rw [hx]; exact List.getElem?_eq_getElem htL
              obtain ⟨b, o, rfl, ⟨c0, c1, c2, c3, c4, c5⟩, _⟩ := HOp.out wr HA.out.b0 t x hxs
              obtain ⟨-, -, -, -, hsl, ha1, hn1, hv1⟩ := HOp0.out t x hxs
              have HCl := Lib.hid (HSt.out wr gs ps (6 + 2 * t) x HA.out a1 b1 HC.out (by omega) ha1 hn1 hv1 hsl (HZa.out t x hxs))
              have ti : (t : Int) < (j : Int) := by omega
              have hw1 : IntKind.i64.wrap ((t : Int) + 1) = ((t + 1 : Nat) : Int) := by rw [IntKind.wrap_i64]; omega
              obtain ⟨kd, who, xa, xn, xv, xp, xc, zs⟩ := x
              dsimp only at c0 c1 c2 c3 c4 c5 HCl
              generalize zs.length = zl at c5 HCl
              clear hx hxs hsl ha1 hn1 hv1 HA HC
              go_wp2_with fail
              refine HCl.out.mono ?_
              rintro e w10 ⟨rfl, gs', ps', HA', a', b', c'⟩
              have HI' : Hid (∃ gs ps, Al w w10 bb R vr vd rs ds gs ps ps [] [] ∧ 0 < gs.length ∧ gs.length ≤ 8 ∧ ∀ p ∈ ps, Ps.le p (6 + 2 * (t + 1))) := ⟨gs', ps', HA'.out, a', b', c'⟩
              clear HCl HA' a' b' c' c0 c1 c2 c3 c4 c5
              go_wp2_with fail
              exact ⟨⟨t + 1, by omega, by first | rfl | trivial, HI'⟩, by simp [intOf]; omega⟩
            · obtain rfl : t = j := by omega
              obtain ⟨n9, hn9⟩ : ∃ n9, gs.length = n9 := ⟨_, rfl⟩
              have HN9 := Lib.hid hn9
              rw [hn9] at a1 b1
              clear hn9 hlt
              have HLs := Lib.hid HA.out.lens
              go_wp2_with fail
              go_loopw [11] (fun iv wr => ∃ q : Nat, q ≤ n9 ∧ iv = .int .i64 (q : Int) ∧ Hid (Al w wr bb R vr vd rs ds gs ps ps [] [])) (fun iv _ => n9 - (intOf iv).toNat)
              case atStart => exact ⟨0, Nat.zero_le _, rfl, HA⟩
              case round =>
                obtain ⟨q, hq, rfl, HAq⟩ := hrel
                clear HA
                obtain ⟨gb, off, cap, c0, hcap, hrow⟩ := HAq.out.row (by rw [HN9.out]; exact a1)
                rw [HN9.out] at c0 hcap
                have HRow := Lib.hid hrow
                clear hrow
                have hRl := HAq.out.R_lt
                by_cases hlt : q < n9
                · have hql : q < gs.length := by rw [HN9.out]; exact hlt
                  have hqp : q < ps.length := by rw [HLs.out.1]; exact hql
                  obtain ⟨gmv, hg⟩ : ∃ gmv, gs[q]? = some gmv := ⟨_, List.getElem?_eq_getElem hql⟩
                  obtain ⟨g, m', v'⟩ := gmv
                  have c1 := HRow.out q g m' v' hg
                  have HWh := Lib.hid (whole_any HBo.out HAq.out hg (List.getElem?_eq_getElem hqp) (HC.out _ (List.getElem_mem hqp)) (by omega))
                  have qi : (q : Int) < (n9 : Int) := by omega
                  have hw1 : IntKind.i64.wrap ((q : Int) + 1) = ((q + 1 : Nat) : Int) := by rw [IntKind.wrap_i64]; omega
                  clear hg HRow
                  go_wp2_with fail
                  refine HWh.out.mono ?_
                  rintro e w10 ⟨rfl, HA10⟩
                  clear HWh c0 c1
                  go_wp2_with fail
                  exact ⟨⟨q + 1, by omega, by first | rfl | trivial, HA10⟩, by simp [intOf]; omega⟩
                · obtain rfl : q = n9 := by omega
                  have HAp := Lib.hid (a_bytes HAq.out)
                  clear HRow hlt
                  go_wp2_with fail
                  refine HAp.out.mono ?_
                  rintro e w11 ⟨rfl, HF⟩
                  obtain ⟨f1, f2, f3, f4, fa, fb, fc, fd, fe, lr, wr', hd2, F, f5, f6⟩ := HF.out
                  have HRa := Lib.hid (a_ranges f1 f3 f4 f5 f6)
                  clear HAp f1 f3 f4 f5 f6 HF c0
                  go_wp2_with fail
                  refine HRa.out.mono ?_
                  rintro e w12 ⟨rfl, hb12⟩
                  go_wp2_with fail
                  go_ret
                  exact ⟨rfl, hb12⟩
end Go.Proofs.YtddgoncbdlhhhaaGreat
