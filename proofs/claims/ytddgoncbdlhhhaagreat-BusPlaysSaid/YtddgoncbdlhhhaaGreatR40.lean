import Derived.Test.YtddgoncbdlhhhaaGreatR35
import Derived.Test.YtddgoncbdlhhhaaGreatR39
import Derived.Deep.RegionLaw
/- BusPlays: a step: Kept, the meter, Bus (written by parts/gen_bpst.py). Own work. -/
namespace Go.Proofs.YtddgoncbdlhhhaaGreat
open Go.RowKit Go.Maps Go.Proofs.YtddgoncbdlhhhaaGreat.Sp Wk
set_option linter.unusedVariables false
section
variable {w0 w : World} {bb R : Nat} {vr vd : Value} {rs ds : List Sp} {gs : List (Nat × Nat × Nat)} {pb pv : List Ps} {H : List (Value × List Nat)} {G : List (Value × List Sp)} {i g m v : Nat} {p : Ps}
theorem c_kept (h : Al w0 w bb R vr vd rs ds gs pb pv H G) (hi : gs[i]? = some (g, m, v)) (hp : pb[i]? = some p) : Calls Tryz.prog 31 #[.pointer (some ⟨m, 0, none⟩)] w fun e w' => e = .returned (.int .i64 (cnt p.M : Int)) ∧ w' = w := by
  obtain ⟨B, V, T, hm, _⟩ := h.bus1 hi hp
  exact kept_any hm
theorem og_lt {x : Int} (hB : BusOk w0 vr vd rs ds) (h : Og (rs ++ ds) x) : x < 1048576 := by
  obtain ⟨r, hr, h1, h2⟩ := h 0 (by omega)
  have := hB.sane r hr
  omega
theorem d_kept (hB : BusOk w0 vr vd rs ds) (h : Al w0 w bb R vr vd rs ds gs pb pv H G) (hi : gs[i]? = some (g, m, v)) (hp : pv[i]? = some p) : Calls Tryz.prog 32 #[.pointer (some ⟨v, 0, none⟩)] w fun e w' => e = .returned (.int .i64 (cnt p.M : Int)) ∧ w' = w := by
  obtain ⟨base, vp, pq, hm, _, _, hg, _⟩ := h.ref1 hi hp
  have := rkept_at hm
  rw [cnt_pages hm.pn (fun x hx => og_lt hB (hg x hx)) hm.2.2.2.2.2.2.2 pagesN rfl] at this
  exact this
theorem m_meter (h : Al w0 w bb R vr vd rs ds gs pb pv H G) (hi : gs[i]? = some (g, m, v)) (hp : pb[i]? = some p) (hq : pv[i]? = some p) : Calls Tryz.prog 30 #[.pointer (some ⟨g, 0, none⟩)] w fun e w' => e = .returned (.bool true) ∧ Below w.heap.size w w' := by
  obtain ⟨B, V, T, hm, _⟩ := h.bus1 hi hp
  obtain ⟨base, vp, pq, hr, _⟩ := h.ref1 hi hq
  exact meter_any (h.seat hi) hm hr.2.1
theorem Al.vbus (h : Al w0 w bb R vr vd rs ds gs pb pv H G) (hi : gs[i]? = some (g, m, v)) (hq : pv[i]? = some p) : w.cell? ⟨v, 0, none⟩ = some vr ∧ w.cell? ⟨v, 1, none⟩ = some vd ∧ v < w.heap.size := by
  obtain ⟨base, vp, pq, hr, _⟩ := h.ref1 hi hq
  exact ⟨hr.2.1.cells.1, hr.2.1.cells.2.1, hr.2.1.lt⟩
end
set_option maxRecDepth 100000 in
set_option maxHeartbeats 8000000 in
theorem tells_kept {w0 w : World} {bb R : Nat} {vr vd : Value} {rs ds : List Sp} {gs : List (Nat × Nat × Nat)} {ps : List Ps} {k i g m v : Nat} {p : Ps} {who n : Int} {a val : Nat} {pa : Option Addr} {pn pc : Nat} (hB : BusOk w0 vr vd rs ds) (h : Al w0 w bb R vr vd rs ds gs ps ps [] []) (hgi : gs[i]? = some (g, m, v)) (hpi : ps[i]? = some p) (h0 : 0 < gs.length) (h8 : gs.length ≤ 8) (hps : ∀ p ∈ ps, Ps.le p k) (ha : a ≤ 18446744073709551615) :
    Calls Tryz.prog 29 #[.pointer (some ⟨R, 0, none⟩), .pointer (some ⟨g, 0, none⟩), .agg #[.int .i64 8, .int .i64 who, .int .u64 (a : Int), .int .i64 n, .int .u64 (val : Int), .slice pa pn pc]] w (StP w0 bb R vr vd rs ds k) := by
  obtain ⟨W1, hW1⟩ : ∃ W1, w.alloc (Obj.cells #[.int .i64 8, .int .i64 who, .int .u64 (a : Int), .int .i64 n, .int .u64 (val : Int), .slice pa pn pc] 29) = W1 := ⟨_, rfl⟩
  have hb1 : Below w.heap.size w W1 := hW1 ▸ (Below.refl _ _).alloc (Nat.le_refl _) _
  have HDO : Hid (OpAt W1 w.heap.size 8 who a n val pa pn pc) := hW1 ▸ OpAt.new w 8 who a n val pa pn pc
  have HDA : Hid (Al w0 W1 bb R vr vd rs ds gs ps ps [] []) := (h.low hb1).1
  have HDS : Hid (SeatAt W1 g m v) := HDA.out.seat hgi
  have HPs : Hid (∀ p ∈ ps, Ps.le p k) := hps
  have HGi := Lib.hid hgi
  have HPi := Lib.hid hpi
  have H0 : Hid (0 < gs.length ∧ gs.length ≤ 8) := ⟨h0, h8⟩
  clear h hps hb1 hgi hpi h0 h8
  obtain ⟨o0, o1, o2, o3, o4, o5⟩ := HDO.out.cells
  have HC1 : Hid (Calls Tryz.prog 31 #[.pointer (some ⟨m, 0, none⟩)] W1.drew fun e w' => e = .returned (.int .i64 (cnt p.M : Int)) ∧ w' = W1.drew) := c_kept (HDA.out.low ((Below.refl _ _).drew)).1 HGi.out HPi.out
  have HC2 : Hid (Calls Tryz.prog 32 #[.pointer (some ⟨v, 0, none⟩)] W1.drew fun e w' => e = .returned (.int .i64 (cnt p.M : Int)) ∧ w' = W1.drew) := d_kept hB (HDA.out.low ((Below.refl _ _).drew)).1 HGi.out HPi.out
  obtain ⟨s0, s1⟩ := HDS.out.cells
  go_enter Tryz.func29, Tryz.ntmps29
  go_wp2_with fail
  try rw [hW1]
  clear hW1
  go_region_held3 (fun w' => w' = W1.drew) (rfl) (first | (go_at_call 31; refine HC1.out.mono ?_; rintro e w' ⟨rfl, hw⟩; subst hw) | (go_at_call 32; refine HC2.out.mono ?_; rintro e w' ⟨rfl, hw⟩; subst hw))
  all_goals
    go_wp2_with fail
    go_ret
    exact ⟨rfl, gs, ps, (HDA.out.low ((Below.refl _ _).drew)).1, H0.out.1, H0.out.2, HPs.out⟩
set_option maxRecDepth 100000 in
set_option maxHeartbeats 8000000 in
theorem tells_meter {w0 w : World} {bb R : Nat} {vr vd : Value} {rs ds : List Sp} {gs : List (Nat × Nat × Nat)} {ps : List Ps} {k i g m v : Nat} {p : Ps} {who n : Int} {a val : Nat} {pa : Option Addr} {pn pc : Nat} (hB : BusOk w0 vr vd rs ds) (h : Al w0 w bb R vr vd rs ds gs ps ps [] []) (hgi : gs[i]? = some (g, m, v)) (hpi : ps[i]? = some p) (h0 : 0 < gs.length) (h8 : gs.length ≤ 8) (hps : ∀ p ∈ ps, Ps.le p k) (ha : a ≤ 18446744073709551615) :
    Calls Tryz.prog 29 #[.pointer (some ⟨R, 0, none⟩), .pointer (some ⟨g, 0, none⟩), .agg #[.int .i64 9, .int .i64 who, .int .u64 (a : Int), .int .i64 n, .int .u64 (val : Int), .slice pa pn pc]] w (StP w0 bb R vr vd rs ds k) := by
  obtain ⟨W1, hW1⟩ : ∃ W1, w.alloc (Obj.cells #[.int .i64 9, .int .i64 who, .int .u64 (a : Int), .int .i64 n, .int .u64 (val : Int), .slice pa pn pc] 29) = W1 := ⟨_, rfl⟩
  have hb1 : Below w.heap.size w W1 := hW1 ▸ (Below.refl _ _).alloc (Nat.le_refl _) _
  have HDO : Hid (OpAt W1 w.heap.size 9 who a n val pa pn pc) := hW1 ▸ OpAt.new w 9 who a n val pa pn pc
  have HDA : Hid (Al w0 W1 bb R vr vd rs ds gs ps ps [] []) := (h.low hb1).1
  have HDS : Hid (SeatAt W1 g m v) := HDA.out.seat hgi
  have HPs : Hid (∀ p ∈ ps, Ps.le p k) := hps
  have HGi := Lib.hid hgi
  have HPi := Lib.hid hpi
  have H0 : Hid (0 < gs.length ∧ gs.length ≤ 8) := ⟨h0, h8⟩
  clear h hps hb1 hgi hpi h0 h8
  obtain ⟨o0, o1, o2, o3, o4, o5⟩ := HDO.out.cells
  have HC1 := Lib.hid (m_meter HDA.out HGi.out HPi.out HPi.out)
  go_enter Tryz.func29, Tryz.ntmps29
  go_wp2_with fail
  try rw [hW1]
  clear hW1
  refine HC1.out.mono ?_
  rintro e w2 ⟨rfl, hb2⟩
  go_wp2_with fail
  go_ret
  exact ⟨rfl, gs, ps, (HDA.out.low hb2).1, H0.out.1, H0.out.2, HPs.out⟩
set_option maxRecDepth 100000 in
set_option maxHeartbeats 8000000 in
theorem tells_bus {w0 w : World} {bb R : Nat} {vr vd : Value} {rs ds : List Sp} {gs : List (Nat × Nat × Nat)} {ps : List Ps} {k i g m v : Nat} {p : Ps} {who n : Int} {a val : Nat} {pa : Option Addr} {pn pc : Nat} (hB : BusOk w0 vr vd rs ds) (h : Al w0 w bb R vr vd rs ds gs ps ps [] []) (hgi : gs[i]? = some (g, m, v)) (hpi : ps[i]? = some p) (h0 : 0 < gs.length) (h8 : gs.length ≤ 8) (hps : ∀ p ∈ ps, Ps.le p k) (ha : a ≤ 18446744073709551615) :
    Calls Tryz.prog 29 #[.pointer (some ⟨R, 0, none⟩), .pointer (some ⟨g, 0, none⟩), .agg #[.int .i64 10, .int .i64 who, .int .u64 (a : Int), .int .i64 n, .int .u64 (val : Int), .slice pa pn pc]] w (StP w0 bb R vr vd rs ds k) := by
  obtain ⟨W1, hW1⟩ : ∃ W1, w.alloc (Obj.cells #[.int .i64 10, .int .i64 who, .int .u64 (a : Int), .int .i64 n, .int .u64 (val : Int), .slice pa pn pc] 29) = W1 := ⟨_, rfl⟩
  have hb1 : Below w.heap.size w W1 := hW1 ▸ (Below.refl _ _).alloc (Nat.le_refl _) _
  have HDO : Hid (OpAt W1 w.heap.size 10 who a n val pa pn pc) := hW1 ▸ OpAt.new w 10 who a n val pa pn pc
  have HDA : Hid (Al w0 W1 bb R vr vd rs ds gs ps ps [] []) := (h.low hb1).1
  have HDS : Hid (SeatAt W1 g m v) := HDA.out.seat hgi
  have HPs : Hid (∀ p ∈ ps, Ps.le p k) := hps
  have HGi := Lib.hid hgi
  have HPi := Lib.hid hpi
  have H0 : Hid (0 < gs.length ∧ gs.length ≤ 8) := ⟨h0, h8⟩
  clear h hps hb1 hgi hpi h0 h8
  obtain ⟨o0, o1, o2, o3, o4, o5⟩ := HDO.out.cells
  have HC1 := Lib.hid (c_bus hB HDA.out HGi.out HPi.out)
  obtain ⟨s0, s1⟩ := HDS.out.cells
  go_enter Tryz.func29, Tryz.ntmps29
  go_wp2_with fail
  try rw [hW1]
  clear hW1
  refine HC1.out.mono ?_
  rintro e w2 ⟨a1, n1, c1, a2, n2, c2, rfl, HA2, HB2⟩
  have HS2 := Lib.hid (HDS.out.bt HB2.out)
  clear HC1 HB2 HDA HDO HDS s0 s1 o0 o1 o2 o3 o4 o5
  go_upto_region 12 with fail
  obtain ⟨W3, hW3⟩ : ∃ W3, w2.alloc (Obj.cells #[.slice a1 n1 c1, .slice a2 n2 c2] 24) = W3 := ⟨_, rfl⟩
  have hb3 : Below w2.heap.size w2 W3 := hW3 ▸ (Below.refl _ _).alloc (Nat.le_refl _) _
  have HA3 := Lib.hid (HA2.out.low hb3).1
  have HS3 := Lib.hid (HS2.out.below hb3)
  have HX3 : Hid (BoxB W3 w2.heap.size (.slice a1 n1 c1) (.slice a2 n2 c2)) := hW3 ▸ heap_alloc_new w2 _
  try rw [hW3]
  have HA0 := Lib.hid (HA3.out.low ((Below.refl _ W3).drew)).1
  have HX0 : Hid (BoxB W3.drew w2.heap.size (.slice a1 n1 c1) (.slice a2 n2 c2)) := HX3.out
  obtain ⟨v0, v1, vl⟩ := HA3.out.vbus HGi.out HPi.out
  obtain ⟨s0, s1⟩ := HS3.out.cells
  obtain ⟨x0, x1, _, _⟩ := HX3.out.cells
  have HSb : Hid (Calls Tryz.prog 65 #[.agg #[.slice a1 n1 c1, .slice a2 n2 c2], .agg #[vr, vd]] W3.drew fun e w' => e = .returned (.bool true) ∧ Below W3.drew.heap.size W3.drew w') := sameBus_yes (HA0.out.ownG (List.mem_cons_self)).sv (HA0.out.ownG (List.mem_cons_of_mem _ (List.mem_singleton.2 rfl))).sv (hB.r.below HA0.out.b0 (Nat.le_refl _)) (hB.d.below HA0.out.b0 (Nat.le_refl _))
  clear hW3 hb3 HA2 HS2
  have HSz := Lib.hid (show W3.drew.cell? ⟨g, 1, none⟩ = some (.pointer (some ⟨v, 0, none⟩)) ∧ W3.drew.cell? ⟨v, 0, none⟩ = some vr ∧ W3.drew.cell? ⟨v, 1, none⟩ = some vd ∧ W3.drew.cell? ⟨w2.heap.size, 0, none⟩ = some (.slice a1 n1 c1) ∧ W3.drew.cell? ⟨w2.heap.size, 1, none⟩ = some (.slice a2 n2 c2) from ⟨s1, v0, v1, x0, x1⟩)
  go_cut [12] (fun z wx => z = .bool true ∧ Hid (Al w0 wx bb R vr vd rs ds gs ps ps [] [(.slice a1 n1 c1, rs), (.slice a2 n2 c2, ds)] ∧ BoxB wx w2.heap.size (.slice a1 n1 c1) (.slice a2 n2 c2)))
  case first =>
    go_region_held3 (fun wx => wx.cell? ⟨g, 1, none⟩ = some (.pointer (some ⟨v, 0, none⟩)) ∧ wx.cell? ⟨v, 0, none⟩ = some vr ∧ wx.cell? ⟨v, 1, none⟩ = some vd ∧ wx.cell? ⟨w2.heap.size, 0, none⟩ = some (.slice a1 n1 c1) ∧ wx.cell? ⟨w2.heap.size, 1, none⟩ = some (.slice a2 n2 c2)) (first | exact HSx.out | exact HSz.out | go_keep)
      (first | (go_at_call 65; refine HSb.out.mono ?_; rintro e x1 ⟨rfl, hb1⟩; have HAx := Lib.hid (HA0.out.low hb1).1; have HXx := Lib.hid (HX0.out.below hb1); have HSx := Lib.hid (show x1.cell? ⟨g, 1, none⟩ = some (.pointer (some ⟨v, 0, none⟩)) ∧ x1.cell? ⟨v, 0, none⟩ = some vr ∧ x1.cell? ⟨v, 1, none⟩ = some vd ∧ x1.cell? ⟨w2.heap.size, 0, none⟩ = some (.slice a1 n1 c1) ∧ x1.cell? ⟨w2.heap.size, 1, none⟩ = some (.slice a2 n2 c2) from ⟨(HAx.out.seat HGi.out |> fun (hq : SeatAt x1 g m v) => hq.cells.2), (HAx.out.vbus HGi.out HPi.out).1, (HAx.out.vbus HGi.out HPi.out).2.1, HXx.out.cells.1, HXx.out.cells.2.1⟩)))
    all_goals
      go_wp2_with fail
      go_meet
      exact ⟨rfl, HAx.out, HXx.out⟩
  case rest =>
    obtain ⟨rfl, HR⟩ := hcut
    have HA4 := Lib.hid HR.out.1
    have HX4 := Lib.hid HR.out.2
    have hR4 := HA4.out.R_lt
    clear HR HSb HSz s0 s1 x0 x1 v0 v1 HA0 HX0 HA3 HS3 HX3
    obtain ⟨x0, x1, _, _⟩ := HX4.out.cells
    have HK1 := Lib.hid (k_ranges (HA4.out.low ((Below.refl _ wc).drew)).1)
    go_upto_region 13 with fail
    go_cut [] (fun wx => Hid (Al w0 wx bb R vr vd rs ds gs ps ps [] [(.slice a2 n2 c2, ds)] ∧ BoxB wx w2.heap.size (.slice a1 n1 c1) (.slice a2 n2 c2)))
    case first =>
      go_region_held3 (fun wx => wx.cell? ⟨w2.heap.size, 0, none⟩ = some (.slice a1 n1 c1) ∧ wx.cell? ⟨w2.heap.size, 1, none⟩ = some (.slice a2 n2 c2)) (first | exact HSx.out | exact ⟨x0, x1⟩ | go_keep)
        (first | (go_at_call 66; refine HK1.out.mono ?_; rintro e y1 ⟨rfl, HAx, HBx⟩; have HXx : Hid (BoxB y1 w2.heap.size (.slice a1 n1 c1) (.slice a2 n2 c2)) := HBx.out.2 _ _ _ _ (show wc.drew.heap[w2.heap.size]? = _ from HX4.out) (by unfold Fx; decide); have HSx := Lib.hid (show y1.cell? ⟨w2.heap.size, 0, none⟩ = some (.slice a1 n1 c1) ∧ y1.cell? ⟨w2.heap.size, 1, none⟩ = some (.slice a2 n2 c2) from ⟨HXx.out.cells.1, HXx.out.cells.2.1⟩)))
      all_goals
        go_wp2_with fail
        go_meet
        exact ⟨HAx.out, HXx.out⟩
    case rest =>
      have HA5 := Lib.hid hcut.out.1
      have HX5 := Lib.hid hcut.out.2
      have hR5 := HA5.out.R_lt
      clear hcut HK1 HA4 HX4 x0 x1 hR4
      obtain ⟨x0, x1, _, _⟩ := HX5.out.cells
      have HK2 := Lib.hid (k_ranges (HA5.out.low ((Below.refl _ wc).drew)).1)
      go_upto_region 14 with fail
      go_region_held3 (fun wx => wx.cell? ⟨w2.heap.size, 0, none⟩ = some (.slice a1 n1 c1) ∧ wx.cell? ⟨w2.heap.size, 1, none⟩ = some (.slice a2 n2 c2)) (first | exact HSx.out | exact ⟨x0, x1⟩ | go_keep)
        (first | (go_at_call 66; refine HK2.out.mono ?_; rintro e y1 ⟨rfl, HAx, HBx⟩; have HXx : Hid (BoxB y1 w2.heap.size (.slice a1 n1 c1) (.slice a2 n2 c2)) := HBx.out.2 _ _ _ _ (show wc.drew.heap[w2.heap.size]? = _ from HX5.out) (by unfold Fx; decide); have HSx := Lib.hid (show y1.cell? ⟨w2.heap.size, 0, none⟩ = some (.slice a1 n1 c1) ∧ y1.cell? ⟨w2.heap.size, 1, none⟩ = some (.slice a2 n2 c2) from ⟨HXx.out.cells.1, HXx.out.cells.2.1⟩)))
      all_goals
        go_wp2_with fail
        go_ret
        exact ⟨rfl, gs, ps, HAx, H0.out.1, H0.out.2, HPs.out⟩
end Go.Proofs.YtddgoncbdlhhhaaGreat
/- BusPlays: a step: Where (written by parts/gen_bpst.py). Own work. -/
namespace Go.Proofs.YtddgoncbdlhhhaaGreat
open Go.RowKit Go.Maps Go.Proofs.YtddgoncbdlhhhaaGreat.Sp Wk
set_option linter.unusedVariables false
theorem Keeps.three (w : World) (b : Nat) (x y z : Value) : Keeps (fun j => j = b) w (((w.setCell ⟨b, 0, none⟩ x).setCell ⟨b, 1, none⟩ y).setCell ⟨b, 2, none⟩ z) := ((Keeps.setCell w b 0 x).trans (Keeps.setCell _ b 1 y) (fun _ _ e => e)).trans (Keeps.setCell _ b 2 z) (fun _ _ e => e)
theorem Box3.cells3 {w : World} {b : Nat} {x y z : Value} (h : Box3 w b x y z) : w.cell? ⟨b, 0, none⟩ = some x ∧ w.cell? ⟨b, 1, none⟩ = some y ∧ w.cell? ⟨b, 2, none⟩ = some z ∧ w.frozen? ⟨b, 0, none⟩ = false ∧ w.frozen? ⟨b, 1, none⟩ = false ∧ w.frozen? ⟨b, 2, none⟩ = false := by
  refine ⟨?_, ?_, ?_, by simp [World.frozen?, show w.heap[b]? = _ from h], by simp [World.frozen?, show w.heap[b]? = _ from h], by simp [World.frozen?, show w.heap[b]? = _ from h]⟩ <;> rw [cell_of_row w b _ _ _ _ h] <;> rfl
theorem Box3.lt3 {w : World} {b : Nat} {x y z : Value} (h : Box3 w b x y z) : b < w.heap.size := (Array.getElem?_eq_some_iff.1 h).1
theorem Box3.below3 {w w' : World} {b : Nat} {x y z : Value} (h : Box3 w b x y z) (hb : Below w.heap.size w w') : Box3 w' b x y z := (hb.block b h.lt3).trans h
theorem Box3.bt {w w' : World} {b : Nat} {x y z : Value} (h : Box3 w b x y z) (hb : Bt w w') : Box3 w' b x y z := hb.2 b _ _ _ h (by unfold Fx; decide)
theorem Box3.set3 {w : World} {b : Nat} {x y z : Value} (h : Box3 w b x y z) (x' y' z' : Value) : Box3 (((w.setCell ⟨b, 0, none⟩ x').setCell ⟨b, 1, none⟩ y').setCell ⟨b, 2, none⟩ z') b x' y' z' := by
  have h' : w.heap[b]? = some (.cells #[x, y, z] 131 (0, 0)) := h
  simp [Box3, World.setCell, Array.getElem?_modify, h']
set_option maxRecDepth 100000 in
set_option maxHeartbeats 8000000 in
theorem tells_where {w0 w : World} {bb R : Nat} {vr vd : Value} {rs ds : List Sp} {gs : List (Nat × Nat × Nat)} {ps : List Ps} {k i g m v : Nat} {p : Ps} {who n : Int} {a val : Nat} {pa : Option Addr} {pn pc : Nat} (hB : BusOk w0 vr vd rs ds) (h : Al w0 w bb R vr vd rs ds gs ps ps [] []) (hgi : gs[i]? = some (g, m, v)) (hpi : ps[i]? = some p) (h0 : 0 < gs.length) (h8 : gs.length ≤ 8) (hps : ∀ p ∈ ps, Ps.le p k) (ha : a ≤ 18446744073709551615) :
    Calls Tryz.prog 29 #[.pointer (some ⟨R, 0, none⟩), .pointer (some ⟨g, 0, none⟩), .agg #[.int .i64 7, .int .i64 who, .int .u64 (a : Int), .int .i64 n, .int .u64 (val : Int), .slice pa pn pc]] w (StP w0 bb R vr vd rs ds k) := by
  obtain ⟨W1, hW1⟩ : ∃ W1, w.alloc (Obj.cells #[.int .i64 7, .int .i64 who, .int .u64 (a : Int), .int .i64 n, .int .u64 (val : Int), .slice pa pn pc] 29) = W1 := ⟨_, rfl⟩
  have hb1 : Below w.heap.size w W1 := hW1 ▸ (Below.refl _ _).alloc (Nat.le_refl _) _
  have HDO : Hid (OpAt W1 w.heap.size 7 who a n val pa pn pc) := hW1 ▸ OpAt.new w 7 who a n val pa pn pc
  have HDA : Hid (Al w0 W1 bb R vr vd rs ds gs ps ps [] []) := (h.low hb1).1
  have HDS : Hid (SeatAt W1 g m v) := HDA.out.seat hgi
  have HPs : Hid (∀ p ∈ ps, Ps.le p k) := hps
  have HGi := Lib.hid hgi
  have HPi := Lib.hid hpi
  have H0 : Hid (0 < gs.length ∧ gs.length ≤ 8) := ⟨h0, h8⟩
  clear h hps hb1 hgi hpi h0 h8
  obtain ⟨o0, o1, o2, o3, o4, o5⟩ := HDO.out.cells
  obtain ⟨sk, si, so, sb, hV, _⟩ := where_form rs ds (a : Int)
  have HC1 : Hid (∀ W, Al w0 W bb R vr vd rs ds gs ps ps [] [] → Calls Tryz.prog 62 #[.pointer (some ⟨m, 0, none⟩), .int .u64 (a : Int)] W fun e w' => e = .returned (.tuple #[.agg #[.int .i64 sk, .int .i64 si, .int .u64 so], .bool sb]) ∧ Below W.heap.size W w') := fun W hW => by
    obtain ⟨B, V, T, hm, _⟩ := hW.bus1 HGi.out HPi.out
    rw [← hV]
    exact where_any hm ⟨by omega, by omega⟩
  have HC2 : Hid (∀ W, Al w0 W bb R vr vd rs ds gs ps ps [] [] → Calls Tryz.prog 63 #[.pointer (some ⟨v, 0, none⟩), .int .u64 (a : Int)] W fun e w' => e = .returned (.tuple #[.agg #[.int .i64 sk, .int .i64 si, .int .u64 so], .bool sb]) ∧ Below W.heap.size W w') := fun W hW => by
    obtain ⟨base, vp, pq, hr, _⟩ := hW.ref1 HGi.out HPi.out
    rw [← hV]
    exact rwhere_any hr.2.1 (hB.r.below hW.b0 (Nat.le_refl _)) (hB.d.below hW.b0 (Nat.le_refl _)) hB.sane hB.few ⟨by omega, by omega⟩
  have hsp : ∀ W, (binOp .eql 131 (.agg #[.int .i64 sk, .int .i64 si, .int .u64 so]) (.agg #[.int .i64 sk, .int .i64 si, .int .u64 so])).run Tryz.prog W = .ok (.bool true) W := fun W => by rw [eql_spot]; simp
  have hgs : ∀ W x y, (eqGuard .eql 131 x y (.agg #[.int .i64 sk, .int .i64 si, .int .u64 so]) (.agg #[.int .i64 sk, .int .i64 si, .int .u64 so])).run Tryz.prog W = .ok () W := fun W x y => run_eqGuard_agg W _ _ _ _ _ _ guard_spot
  clear hV
  go_enter Tryz.func29, Tryz.ntmps29
  go_wp2_with fail
  try rw [hW1]
  clear hW1
  clear o0 o1 o2 o3 o4 o5
  have hgl := HDS.out.lt
  have hol := HDO.out.lt
  have hRl := HDA.out.R_lt
  have hne1 : g ≠ W1.heap.size := Nat.ne_of_lt hgl
  have hne2 : w.heap.size ≠ W1.heap.size := Nat.ne_of_lt hol
  have hbd : Below W1.heap.size W1 W1.drew := (Below.refl _ _).drew
  have hbx : Below W1.heap.size W1 (W1.alloc (Obj.cells #[.int .i64 0, .int .i64 0, .int .u64 0] 131)).drew := ((Below.refl _ _).alloc (Nat.le_refl _) _).drew
  have HA0 := Lib.hid (HDA.out.low hbd).1
  have HO0 := Lib.hid (HDO.out.below hbd)
  have HS0 := Lib.hid (HDS.out.below hbd)
  have HAb := Lib.hid (HDA.out.low hbx).1
  have HOb := Lib.hid (HDO.out.below hbx)
  have HSb := Lib.hid (HDS.out.below hbx)
  have HFb : Hid (Box3 (W1.alloc (Obj.cells #[.int .i64 0, .int .i64 0, .int .u64 0] 131)).drew W1.heap.size (.int .i64 0) (.int .i64 0) (.int .u64 0)) := heap_alloc_new W1 _
  obtain ⟨s0, s1⟩ := HDS.out.cells
  obtain ⟨_, _, o2, _⟩ := HDO.out.cells
  have HSz := Lib.hid (show W1.drew.cell? ⟨g, 0, none⟩ = some (.pointer (some ⟨m, 0, none⟩)) ∧ W1.drew.cell? ⟨w.heap.size, 2, none⟩ = some (.int .u64 (a : Int)) from ⟨s0, o2⟩)
  clear hbd hbx
  go_cut [7, 8] (fun z y wx => ∃ b1, z = .pointer (some ⟨b1, 0, none⟩) ∧ y = .bool sb ∧ Hid (Box3 wx b1 (.int .i64 sk) (.int .i64 si) (.int .u64 so) ∧ Al w0 wx bb R vr vd rs ds gs ps ps [] [] ∧ OpAt wx w.heap.size 7 who a n val pa pn pc ∧ SeatAt wx g m v ∧ Bt W1 wx))
  case first =>
    go_region_held3 (fun wx => wx.cell? ⟨g, 0, none⟩ = some (.pointer (some ⟨m, 0, none⟩)) ∧ wx.cell? ⟨w.heap.size, 2, none⟩ = some (.int .u64 (a : Int))) (first | exact HS9.out | exact HS1.out | exact HSz.out | go_keep) (first | (go_at_call 62; refine (HC1.out _ HA0.out).mono ?_; rintro e x1 ⟨rfl, hbx⟩; have HAx := Lib.hid (HA0.out.low hbx).1; have HOx := Lib.hid (HO0.out.below hbx); have HSx := Lib.hid (HS0.out.below hbx); have HBy := Lib.hid ((Bt.below ((Below.refl _ W1).drew)).trans (Bt.below hbx)); have HS1 := Lib.hid (show x1.cell? ⟨g, 0, none⟩ = some (.pointer (some ⟨m, 0, none⟩)) ∧ x1.cell? ⟨w.heap.size, 2, none⟩ = some (.int .u64 (a : Int)) from ⟨HSx.out.cells.1, HOx.out.cells.2.2.1⟩); have hgx := HSx.out.lt; have hox := HOx.out.lt; obtain ⟨y0, y2⟩ := HS1.out) | (go_at_call 62; refine (HC1.out _ HAb.out).mono ?_; rintro e x1 ⟨rfl, hbx⟩; have HAx := Lib.hid (HAb.out.low hbx).1; have HOx := Lib.hid (HOb.out.below hbx); have HSx := Lib.hid (HSb.out.below hbx); have HFx := Lib.hid (HFb.out.below3 hbx); have HBy := Lib.hid ((Bt.below (((Below.refl _ W1).alloc (Nat.le_refl _) _).drew)).trans (Bt.below hbx)); obtain ⟨f0, f1, f2, f3, f4, f5⟩ := HFx.out.cells3; have hfx := HFx.out.lt3; have HS9 := Lib.hid (show (((x1.setCell ⟨W1.heap.size, 0, none⟩ (.int .i64 sk)).setCell ⟨W1.heap.size, 1, none⟩ (.int .i64 si)).setCell ⟨W1.heap.size, 2, none⟩ (.int .u64 so)).cell? ⟨g, 0, none⟩ = some (.pointer (some ⟨m, 0, none⟩)) ∧ (((x1.setCell ⟨W1.heap.size, 0, none⟩ (.int .i64 sk)).setCell ⟨W1.heap.size, 1, none⟩ (.int .i64 si)).setCell ⟨W1.heap.size, 2, none⟩ (.int .u64 so)).cell? ⟨w.heap.size, 2, none⟩ = some (.int .u64 (a : Int)) from ⟨(HSx.out.keep1 (Keeps.three x1 W1.heap.size (.int .i64 sk) (.int .i64 si) (.int .u64 so)) hne1).cells.1, (HOx.out.keep1 (Keeps.three x1 W1.heap.size (.int .i64 sk) (.int .i64 si) (.int .u64 so)) hne2).cells.2.2.1⟩); have HS1 := Lib.hid (show x1.cell? ⟨g, 0, none⟩ = some (.pointer (some ⟨m, 0, none⟩)) ∧ x1.cell? ⟨w.heap.size, 2, none⟩ = some (.int .u64 (a : Int)) from ⟨HSx.out.cells.1, HOx.out.cells.2.2.1⟩); have hgx := HSx.out.lt; have hox := HOx.out.lt; obtain ⟨y0, y2⟩ := HS1.out))
    all_goals
      go_wp2_with fail
      go_meet
      first
        | exact ⟨_, rfl, rfl, heap_alloc_new x1 _, (HAx.out.low ((Below.refl _ _).alloc (Nat.le_refl _) _)).1, HOx.out.below ((Below.refl _ _).alloc (Nat.le_refl _) _), HSx.out.below ((Below.refl _ _).alloc (Nat.le_refl _) _), HBy.out.trans (Bt.below ((Below.refl _ _).alloc (Nat.le_refl _) _))⟩
        | exact ⟨_, rfl, rfl, HFx.out.set3 _ _ _, HAx.out.box HFx.out (.inr (.inr (.inr rfl))) (Nat.le_of_lt hRl) (Keeps.three x1 W1.heap.size (.int .i64 sk) (.int .i64 si) (.int .u64 so)), HOx.out.keep1 (Keeps.three x1 W1.heap.size (.int .i64 sk) (.int .i64 si) (.int .u64 so)) hne2, HSx.out.keep1 (Keeps.three x1 W1.heap.size (.int .i64 sk) (.int .i64 si) (.int .u64 so)) hne1, HBy.out.trans_box (Keeps.three x1 W1.heap.size (.int .i64 sk) (.int .i64 si) (.int .u64 so))⟩
  case rest =>
    obtain ⟨b1, rfl, rfl, HR⟩ := hcut
    obtain ⟨hf3, ha3, ho3, hs3, _⟩ := HR.out
    have HEA := Lib.hid ha3
    have HEO := Lib.hid ho3
    have HES := Lib.hid hs3
    have HF3 := Lib.hid hf3
    clear HR hf3 ha3 ho3 hs3 HA0 HO0 HS0 HAb HOb HSb HFb HSz s0 s1 o2 hgl hol hRl hne1 hne2 HC1
    go_wp2_with fail
    have hgl := HES.out.lt
    have hol := HEO.out.lt
    have hRl := HEA.out.R_lt
    have hne1 : g ≠ wc.heap.size := Nat.ne_of_lt hgl
    have hne2 : w.heap.size ≠ wc.heap.size := Nat.ne_of_lt hol
    have hbd : Below wc.heap.size wc wc.drew := (Below.refl _ _).drew
    have hbx : Below wc.heap.size wc (wc.alloc (Obj.cells #[.int .i64 0, .int .i64 0, .int .u64 0] 131)).drew := ((Below.refl _ _).alloc (Nat.le_refl _) _).drew
    have HA0 := Lib.hid (HEA.out.low hbd).1
    have HO0 := Lib.hid (HEO.out.below hbd)
    have HS0 := Lib.hid (HES.out.below hbd)
    have HAb := Lib.hid (HEA.out.low hbx).1
    have HOb := Lib.hid (HEO.out.below hbx)
    have HSb := Lib.hid (HES.out.below hbx)
    have HFb : Hid (Box3 (wc.alloc (Obj.cells #[.int .i64 0, .int .i64 0, .int .u64 0] 131)).drew wc.heap.size (.int .i64 0) (.int .i64 0) (.int .u64 0)) := heap_alloc_new wc _
    obtain ⟨s0, s1⟩ := HES.out.cells
    obtain ⟨_, _, o2, _⟩ := HEO.out.cells
    have HSz := Lib.hid (show wc.drew.cell? ⟨g, 1, none⟩ = some (.pointer (some ⟨v, 0, none⟩)) ∧ wc.drew.cell? ⟨w.heap.size, 2, none⟩ = some (.int .u64 (a : Int)) from ⟨s1, o2⟩)
    clear hbd hbx
    go_cut [9, 10] (fun z y wx => ∃ b1, z = .pointer (some ⟨b1, 0, none⟩) ∧ y = .bool sb ∧ Hid (Box3 wx b1 (.int .i64 sk) (.int .i64 si) (.int .u64 so) ∧ Al w0 wx bb R vr vd rs ds gs ps ps [] [] ∧ OpAt wx w.heap.size 7 who a n val pa pn pc ∧ SeatAt wx g m v ∧ Bt wc wx))
    case first =>
      go_region_held3 (fun wx => wx.cell? ⟨g, 1, none⟩ = some (.pointer (some ⟨v, 0, none⟩)) ∧ wx.cell? ⟨w.heap.size, 2, none⟩ = some (.int .u64 (a : Int))) (first | exact HS9.out | exact HS1.out | exact HSz.out | go_keep) (first | (go_at_call 63; refine (HC2.out _ HA0.out).mono ?_; rintro e x1 ⟨rfl, hbx⟩; have HAx := Lib.hid (HA0.out.low hbx).1; have HOx := Lib.hid (HO0.out.below hbx); have HSx := Lib.hid (HS0.out.below hbx); have HBy := Lib.hid ((Bt.below ((Below.refl _ wc).drew)).trans (Bt.below hbx)); have HS1 := Lib.hid (show x1.cell? ⟨g, 1, none⟩ = some (.pointer (some ⟨v, 0, none⟩)) ∧ x1.cell? ⟨w.heap.size, 2, none⟩ = some (.int .u64 (a : Int)) from ⟨HSx.out.cells.2, HOx.out.cells.2.2.1⟩); have hgx := HSx.out.lt; have hox := HOx.out.lt; obtain ⟨y0, y2⟩ := HS1.out) | (go_at_call 63; refine (HC2.out _ HAb.out).mono ?_; rintro e x1 ⟨rfl, hbx⟩; have HAx := Lib.hid (HAb.out.low hbx).1; have HOx := Lib.hid (HOb.out.below hbx); have HSx := Lib.hid (HSb.out.below hbx); have HFx := Lib.hid (HFb.out.below3 hbx); have HBy := Lib.hid ((Bt.below (((Below.refl _ wc).alloc (Nat.le_refl _) _).drew)).trans (Bt.below hbx)); obtain ⟨f0, f1, f2, f3, f4, f5⟩ := HFx.out.cells3; have hfx := HFx.out.lt3; have HS9 := Lib.hid (show (((x1.setCell ⟨wc.heap.size, 0, none⟩ (.int .i64 sk)).setCell ⟨wc.heap.size, 1, none⟩ (.int .i64 si)).setCell ⟨wc.heap.size, 2, none⟩ (.int .u64 so)).cell? ⟨g, 1, none⟩ = some (.pointer (some ⟨v, 0, none⟩)) ∧ (((x1.setCell ⟨wc.heap.size, 0, none⟩ (.int .i64 sk)).setCell ⟨wc.heap.size, 1, none⟩ (.int .i64 si)).setCell ⟨wc.heap.size, 2, none⟩ (.int .u64 so)).cell? ⟨w.heap.size, 2, none⟩ = some (.int .u64 (a : Int)) from ⟨(HSx.out.keep1 (Keeps.three x1 wc.heap.size (.int .i64 sk) (.int .i64 si) (.int .u64 so)) hne1).cells.2, (HOx.out.keep1 (Keeps.three x1 wc.heap.size (.int .i64 sk) (.int .i64 si) (.int .u64 so)) hne2).cells.2.2.1⟩); have HS1 := Lib.hid (show x1.cell? ⟨g, 1, none⟩ = some (.pointer (some ⟨v, 0, none⟩)) ∧ x1.cell? ⟨w.heap.size, 2, none⟩ = some (.int .u64 (a : Int)) from ⟨HSx.out.cells.2, HOx.out.cells.2.2.1⟩); have hgx := HSx.out.lt; have hox := HOx.out.lt; obtain ⟨y0, y2⟩ := HS1.out))
      all_goals
        go_wp2_with fail
        go_meet
        first
          | exact ⟨_, rfl, rfl, heap_alloc_new x1 _, (HAx.out.low ((Below.refl _ _).alloc (Nat.le_refl _) _)).1, HOx.out.below ((Below.refl _ _).alloc (Nat.le_refl _) _), HSx.out.below ((Below.refl _ _).alloc (Nat.le_refl _) _), HBy.out.trans (Bt.below ((Below.refl _ _).alloc (Nat.le_refl _) _))⟩
          | exact ⟨_, rfl, rfl, HFx.out.set3 _ _ _, HAx.out.box HFx.out (.inr (.inr (.inr rfl))) (Nat.le_of_lt hRl) (Keeps.three x1 wc.heap.size (.int .i64 sk) (.int .i64 si) (.int .u64 so)), HOx.out.keep1 (Keeps.three x1 wc.heap.size (.int .i64 sk) (.int .i64 si) (.int .u64 so)) hne2, HSx.out.keep1 (Keeps.three x1 wc.heap.size (.int .i64 sk) (.int .i64 si) (.int .u64 so)) hne1, HBy.out.trans_box (Keeps.three x1 wc.heap.size (.int .i64 sk) (.int .i64 si) (.int .u64 so))⟩
    case rest =>
      obtain ⟨b2, rfl, rfl, HR⟩ := hcut
      obtain ⟨hg4, ha4, _, _, ht4⟩ := HR.out
      have hf4 := HF3.out.bt ht4
      have HA4 := Lib.hid ha4
      obtain ⟨f0, f1, f2, _⟩ := hf4.cells3
      obtain ⟨e0, e1, e2, _⟩ := hg4.cells3
      clear HR ha4 hg4 HF3 HA0 HO0 HS0 HAb HOb HSb HFb HSz s0 s1 o2 HC2 ht4 hf4
      go_wp2_with fail
      go_ret
      exact ⟨rfl, gs, ps, HA4, H0.out.1, H0.out.2, HPs.out⟩
end Go.Proofs.YtddgoncbdlhhhaaGreat
/- BusPlays: a step: Clone (written by parts/gen_bpst.py). Own work. -/
namespace Go.Proofs.YtddgoncbdlhhhaaGreat
open Go.RowKit Go.Maps Go.Proofs.YtddgoncbdlhhhaaGreat.Sp Wk
set_option linter.unusedVariables false
/-- append to the seats, under a name of its own -/
noncomputable def apS (ty : TypeId) (args : Array Value) : Sem Next := do pure (.value (← Builtin.append_ #[40, 40] ty args))
theorem apS_eq (ty : TypeId) (cs : Array Bool) (args : Array Value) : builtin .append #[40, 40] ty cs args = apS ty args := rfl
theorem apS_run {ty : TypeId} {args : Array Value} {w w' : World} {v : Value} (h : (Builtin.append_ #[40, 40] ty args).run Tryz.prog w = .ok v w') : (apS ty args).run Tryz.prog w = .ok (.value v) w' := by
  unfold apS
  simp only [Sem.run_bind, Sem.run_pure, h, Result.andThen_ok]
/-- the append as one step, where it is known what it does -/
theorem step_apS {w w' : World} {ops : Array Oper} {o : Oper} {a : Act} {K : Act → World → Prop} {Q : Exit → Act → World → Prop} {E : Prop} {u1 u2 v : Value} (hw : Region.wanted o (yielded ops a.tmps) = true) (s x : Operand) (ho : o.op = .call { callee := .builtin .append, args := #[s, x], argTypes := #[40, 40] }) (hs : a.eval s = u1) (hx : a.eval x = u2) (hr : (Builtin.append_ #[40, 40] o.type #[u1, u2]).run Tryz.prog w = .ok v w') (h : K (a.put o.dst v) w') : if Region.wanted o (yielded ops a.tmps) = true then Oper.wp Tryz.prog o a w K Q else E := by
  rw [if_pos hw]
  unfold Oper.wp execOp
  simp only [ho, resolve, invoke, builtin, Sem.run_bind, Sem.run_pure, Result.andThen_ok, List.map_toArray, List.map_cons, List.map_nil, hs, hx, hr]
  exact h
/-- a call as one step -/
theorem step_enter {P : Program} {w : World} {ops : Array Oper} {o : Oper} {a : Act} {K : Act → World → Prop} {Q : Exit → Act → World → Prop} {E : Prop} (hw : Region.wanted o (yielded ops a.tmps) = true) (f : FuncId) (args : Array Value) (hv : (execOp a.eval o).run P w = .ok (.enter f args) w) {Rl : Value → World → Prop} (hc : Calls P f args w fun e w' => ∃ v, e = .returned v ∧ Rl v w') (h : ∀ v w', Rl v w' → K (a.put o.dst v) w') : if Region.wanted o (yielded ops a.tmps) = true then Oper.wp P o a w K Q else E := by
  rw [if_pos hw]
  unfold Oper.wp
  rw [hv, Oper.upon_enter]
  refine hc.mono ?_
  rintro e w' ⟨v, rfl, hR⟩
  exact h v w' hR
/-- what the append leaves behind it, wherever it is done -/
theorem push_at {w0 w w1 W w2 : World} {bb R : Nat} {vr vd : Value} {rs ds : List Sp} {col : Nat → Nat} {gs : List (Nat × Nat × Nat)} {bs : List BSt} {vs : List VSt} {sv lv wv : Value} {hd : Int} {lr wr : Value} {hd2 : Int} {E : List Ent} {F : List EntG} {i : Nat} {b : BSt} {vq : VSt} {m' B' : Nat} {V' : Value × Value × Value} {T' : Nat → Option Nat} {vp' : Value} {ps' : List (Int × Nat)} {c : Nat} (hc : W.heap.size = c) (h : AlI w0 w bb R vr vd rs ds col gs bs vs [] [] sv lv wv hd lr wr hd2 E F) (hb : bs[i]? = some b) (hv : vs[i]? = some vq) (h8 : gs.length ≤ 8) (h1 : Below w.heap.size w w1) (hm : Mac w1 m' B' V' T' b.p.M rs ds 0 0 0) (hV : V'.2.2 = b.V.2.2) (hm' : w.heap.size ≤ m') (hf : ∀ j, Foot B' T' j → w.heap.size ≤ j) (o1 : OwnRg w1 w.heap.size V'.1 rs) (o2 : OwnRg w1 w.heap.size V'.2.1 ds)
    (hW : Below w1.heap.size w1 W) (hr : RM w2 c c vr vd vp' ps' vq.p.M 0 0 0) (hps : ps'.map Prod.fst = vq.ps.map Prod.fst) (h2 : Below W.heap.size W w2) (ty : TypeId) :
    ∃ va vc w4, (Builtin.append_ #[40, 40] ty #[sv, .slice (some ⟨w2.heap.size + 1, 0, none⟩) 1 1]).run Tryz.prog ((w2.alloc (.cells #[.pointer (some ⟨m', 0, none⟩), .pointer (some ⟨c, 0, none⟩)] 39)).alloc (.cells #[.pointer (some ⟨w2.heap.size, 0, none⟩)] 35)) = .ok (.slice va (gs.length + 1) vc) w4 ∧ w4.cell? ⟨R, 0, none⟩ = some sv ∧ w4.frozen? ⟨R, 0, none⟩ = false ∧ (∃ col', AlI w0 (w4.setCell ⟨R, 0, none⟩ (.slice va (gs.length + 1) vc)) bb R vr vd rs ds col' (gs ++ [(w2.heap.size, m', c)]) (bs ++ [⟨m', B', V', T', ⟨b.p.M, 0, 0, 0⟩⟩]) (vs ++ [⟨c, c, vp', ps', ⟨vq.p.M, 0, 0, 0⟩⟩]) [] [] (.slice va (gs.length + 1) vc) lv wv hd lr wr hd2 E F) ∧ Bt w (w4.setCell ⟨R, 0, none⟩ (.slice va (gs.length + 1) vc)) ∧ Bt w w4 := by
  subst hc
  obtain ⟨A, hA⟩ : ∃ A, w2.alloc (.cells #[.pointer (some ⟨m', 0, none⟩), .pointer (some ⟨W.heap.size, 0, none⟩)] 39) = A := ⟨_, rfl⟩
  obtain ⟨C, hC⟩ : ∃ C, A.alloc (.cells #[.pointer (some ⟨w2.heap.size, 0, none⟩)] 35) = C := ⟨_, rfl⟩
  have hAs : A.heap.size = w2.heap.size + 1 := by rw [← hA]; simp
  have b3 : Below w2.heap.size w2 C := by
    rw [← hC, ← hA]
    exact ((Below.refl _ _).alloc (Nat.le_refl _) _).alloc (by simp) _
  have hg : C.heap[w2.heap.size]? = some (.cells #[.pointer (some ⟨m', 0, none⟩), .pointer (some ⟨W.heap.size, 0, none⟩)] 39 (0, 0)) := by
    have h1 : A.heap[w2.heap.size]? = some (.cells #[.pointer (some ⟨m', 0, none⟩), .pointer (some ⟨W.heap.size, 0, none⟩)] 39 (0, 0)) := by rw [← hA]; exact heap_alloc_new w2 _
    rw [← hC]
    exact ((Below.refl A.heap.size A).alloc (Nat.le_refl _) _).block _ (by omega) |>.trans h1
  have hx : C.cell? ⟨w2.heap.size + 1, 0, none⟩ = some (.pointer (some ⟨w2.heap.size, 0, none⟩)) := by
    have : C.heap[w2.heap.size + 1]? = some (.cells #[.pointer (some ⟨w2.heap.size, 0, none⟩)] 35 (0, 0)) := by
      rw [← hC, ← hAs]
      exact heap_alloc_new A _
    rw [cell_of_row _ _ _ _ _ _ this]
    rfl
  have hwC : Below w.heap.size w C := (h1.trans ((hW.trans (h2.mono hW.size)).mono h1.size)).trans (b3.mono (Nat.le_trans h1.size (Nat.le_trans hW.size h2.size)))
  have hsr : RowV C bb 35 sv (gs.map fun x => .pointer (some ⟨x.1, 0, none⟩)) := h.srow.keeps (Keeps.of_below (S := fun _ => False) hwC) (fun _ _ => id)
  obtain ⟨v', w4, hrun, hrow, hgr, _⟩ := run_appW (cap := 1) ty Tryz.underlying40 info_seat rfl (by omega) hsr hx rfl (by rw [List.length_map]; omega) (Nat.le_trans h.bbl.2 (Nat.le_trans (Nat.le_of_lt h.R_lt) hwC.size))
  obtain ⟨va, vc, rfl⟩ := hrow.form
  rw [List.length_append, List.length_map, List.length_singleton] at hrun hrow
  obtain ⟨hp1, hp2, hp3, hp4⟩ := h.push hb hv h1 hm hV hm' hf o1 o2 hW hr hps h2 b3 hg hrow hgr
  rw [hA, hC]
  refine ⟨va, vc, w4, hrun, hp2, hp3, hp1, hp4, ?_⟩
  have k4 : Keeps (fun k => sv.ownBlock = some k) C w4 := Keeps.of_grown hgr
  refine (Bt.below hwC).trans ⟨k4.size, fun g c t fr hc ht => (k4.block g (Array.getElem?_eq_some_iff.1 hc).1 (fun e => ?_)).trans hc⟩
  obtain ⟨cur, q⟩ := hsr.tag g e
  rw [q] at hc
  cases hc
  exact ht.2.2.2.2.2.2.2.2 rfl
set_option maxRecDepth 100000 in
set_option maxHeartbeats 8000000 in
theorem tells_clone {w0 w : World} {bb R : Nat} {vr vd : Value} {rs ds : List Sp} {gs : List (Nat × Nat × Nat)} {ps : List Ps} {k i g m v : Nat} {p : Ps} {who n : Int} {a val : Nat} {pa : Option Addr} {pn pc : Nat} (hB : BusOk w0 vr vd rs ds) (h : Al w0 w bb R vr vd rs ds gs ps ps [] []) (hgi : gs[i]? = some (g, m, v)) (hpi : ps[i]? = some p) (h0 : 0 < gs.length) (h8 : gs.length ≤ 8) (hps : ∀ p ∈ ps, Ps.le p k) (ha : a ≤ 18446744073709551615) :
    Calls Tryz.prog 29 #[.pointer (some ⟨R, 0, none⟩), .pointer (some ⟨g, 0, none⟩), .agg #[.int .i64 11, .int .i64 who, .int .u64 (a : Int), .int .i64 n, .int .u64 (val : Int), .slice pa pn pc]] w (StP w0 bb R vr vd rs ds k) := by
  obtain ⟨W1, hW1⟩ : ∃ W1, w.alloc (Obj.cells #[.int .i64 11, .int .i64 who, .int .u64 (a : Int), .int .i64 n, .int .u64 (val : Int), .slice pa pn pc] 29) = W1 := ⟨_, rfl⟩
  have hb1 : Below w.heap.size w W1 := hW1 ▸ (Below.refl _ _).alloc (Nat.le_refl _) _
  have HDO : Hid (OpAt W1 w.heap.size 11 who a n val pa pn pc) := hW1 ▸ OpAt.new w 11 who a n val pa pn pc
  have HDA : Hid (Al w0 W1 bb R vr vd rs ds gs ps ps [] []) := (h.low hb1).1
  have HDS : Hid (SeatAt W1 g m v) := HDA.out.seat hgi
  have HPs : Hid (∀ p ∈ ps, Ps.le p k) := hps
  have HGi := Lib.hid hgi
  have HPi := Lib.hid hpi
  have H0 : Hid (0 < gs.length ∧ gs.length ≤ 8) := ⟨h0, h8⟩
  clear h hps hb1 hgi hpi h0 h8
  obtain ⟨o0, o1, o2, o3, o4, o5⟩ := HDO.out.cells
  obtain ⟨gb, off, cap, c0, hcap, _⟩ := HDA.out.row H0.out.1
  have hRl := HDA.out.R_lt
  obtain ⟨N, hN⟩ : ∃ N, gs.length = N := ⟨_, rfl⟩
  have HN := Lib.hid hN
  have h0 : 0 < N := by rw [← hN]; exact H0.out.1
  have h8 : N ≤ 8 := by rw [← hN]; exact H0.out.2
  rw [hN] at c0
  clear hN hcap
  by_cases h9 : 8 ≤ N
  · have h9i : (8 : Int) ≤ (N : Int) := by omega
    have d9 : decide ((N : Int) ≥ 8) = true := decide_eq_true h9i
    go_enter Tryz.func29, Tryz.ntmps29
    go_wp2_with fail
    go_ret
    exact ⟨rfl, gs, ps, HDA, H0.out.1, H0.out.2, HPs.out⟩
  · have h9i : ¬ (8 : Int) ≤ (N : Int) := by omega
    have d9 : decide ((N : Int) ≥ 8) = false := decide_eq_false h9i
    obtain ⟨s0, s1⟩ := HDS.out.cells
    obtain ⟨col, bs, vs, sv, lv, wv, hd, lr, wr, hd2, E, F, hI, e1, e2⟩ := HDA.out
    obtain ⟨b, hb, hbm, hbp⟩ := get_bs hI.lb e1 HGi.out HPi.out
    obtain ⟨vq, hv, hvv, hvp⟩ := get_vs hI.lf e2 HGi.out HPi.out
    have hfew := hB.few
    have HCl : Hid (Calls Tryz.prog 67 #[.pointer (some ⟨m, 0, none⟩)] W1 (CloneO W1 b.V b.p.M rs ds)) := by
      rw [← hbm]
      exact clone_o (hI.bus i b hb).mac (by omega) (by omega)
    have HI := Lib.hid hI
    have HRm : Hid (RM W1 vq.base v vr vd vq.vp vq.ps vq.p.M vq.p.L vq.p.S vq.p.X) := by
      rw [← hvv]
      exact (hI.rf i vq hv).rm
    have HE : Hid (bs.map BSt.p = ps ∧ vs.map VSt.p = ps ∧ bs[i]? = some b ∧ vs[i]? = some vq ∧ b.p = p ∧ vq.p = p) := ⟨e1, e2, hb, hv, hbp, hvp⟩
    obtain ⟨svx, hsv⟩ : ∃ svx : Value, svx = .slice (some ⟨gb, off, none⟩) N cap := ⟨_, rfl⟩
    have hsve : sv = .slice (some ⟨gb, off, none⟩) N cap := by
      have := c0
      rw [cell_of_row _ _ _ _ _ _ hI.bk.blk] at this
      exact Option.some.inj this
    subst hsve
    clear hI e1 e2 hb hv hbm hvv hbp hvp hsv svx
    go_enter Tryz.func29, Tryz.ntmps29
    go_wp2_with fail
    try rw [hW1]
    clear hW1
    refine HCl.out.mono ?_
    rintro e w1 ⟨m', B', V', T', rfl, hb1, hm1, hV1, hm', hf1, ow1, ow2⟩
    have HK1 : Hid (Below W1.heap.size W1 w1) := hb1
    have HM1 := Lib.hid (show Mac w1 m' B' V' T' b.p.M rs ds 0 0 0 ∧ V'.2.2 = b.V.2.2 ∧ W1.heap.size ≤ m' ∧ (∀ j, Foot B' T' j → W1.heap.size ≤ j) ∧ OwnRg w1 W1.heap.size V'.1 rs ∧ OwnRg w1 W1.heap.size V'.2.1 ds from ⟨hm1, hV1, hm', hf1, ow1, ow2⟩)
    have HS1 := Lib.hid (HDS.out.below hb1)
    have hR1 : R < w1.heap.size := Nat.lt_of_lt_of_le hRl hb1.size
    have c1 : w1.cell? ⟨R, 0, none⟩ = some (.slice (some ⟨gb, off, none⟩) N cap) := (World.cell?_of_block (a := ⟨R, 0, none⟩) (hb1.block R hRl)).trans c0
    have HRd : Hid (Calls Tryz.prog 68 #[.pointer (some ⟨v, 0, none⟩)] w1.drew fun e w' => ∃ vp' ps', e = .returned (.pointer (some ⟨w1.heap.size, 0, none⟩)) ∧ RM w' w1.heap.size w1.heap.size vr vd vp' ps' vq.p.M 0 0 0 ∧ ps'.map Prod.fst = vq.ps.map Prod.fst ∧ Below w1.drew.heap.size w1.drew w') := rcloneM_n (HRm.out.below (hb1.drew))
    clear hb1 hm1 hV1 hm' hf1 ow1 ow2 HCl s0 s1 c0 HDA HDO HDS o0 o1 o2 o3 o4 o5
    go_upto_region 19 with fail
    obtain ⟨s0, s1⟩ := HS1.out.cells
    have hg1 := HS1.out.lt
    have HRd2 : Hid (Calls Tryz.prog 68 #[.pointer (some ⟨v, 0, none⟩)] w1.drew fun e w' => ∃ u, e = .returned u ∧ ∃ vp' ps', u = .pointer (some ⟨w1.heap.size, 0, none⟩) ∧ RM w' w1.heap.size w1.heap.size vr vd vp' ps' vq.p.M 0 0 0 ∧ ps'.map Prod.fst = vq.ps.map Prod.fst ∧ Below w1.drew.heap.size w1.drew w') := HRd.out.mono (fun e w' ⟨vp', ps', h1, h2⟩ => ⟨_, h1, vp', ps', rfl, h2⟩)
    clear HRd
    go_cut [] (fun wx => Hid (∃ col' va vc sx vp' ps', AlI w0 wx bb R vr vd rs ds col' (gs ++ [(sx, m', w1.heap.size)]) (bs ++ [⟨m', B', V', T', ⟨b.p.M, 0, 0, 0⟩⟩]) (vs ++ [⟨w1.heap.size, w1.heap.size, vp', ps', ⟨vq.p.M, 0, 0, 0⟩⟩]) [] [] (.slice va (gs.length + 1) vc) lv wv hd lr wr hd2 E F))
    case first =>
      go_region_law (first | (refine step_enter (by kernel_rfl) 68 #[.pointer (some ⟨v, 0, none⟩)] (by simp only [execOp, resolve, invoke, Act.eval, Sem.run_bind, List.map_toArray, List.map_cons, List.map_nil]; rfl) (Rl := fun u w' => ∃ vp' ps', u = .pointer (some ⟨w1.heap.size, 0, none⟩) ∧ RM w' w1.heap.size w1.heap.size vr vd vp' ps' vq.p.M 0 0 0 ∧ ps'.map Prod.fst = vq.ps.map Prod.fst ∧ Below w1.drew.heap.size w1.drew w') (HRd2.out) ?_; rintro u w2 ⟨vp', ps', rfl, hr2, hps2, hb2⟩; have hb3 : Below w1.heap.size w1 w2 := ⟨hb2.os, hb2.tape, hb2.output, hb2.size, hb2.block⟩; obtain ⟨va, vc, w4, hrun, z5, z6, hal, hbt, hbt4⟩ := push_at (W := w1.drew) (c := w1.heap.size) rfl HI.out HE.out.2.2.1 HE.out.2.2.2.1 H0.out.2 HK1.out HM1.out.1 HM1.out.2.1 HM1.out.2.2.1 HM1.out.2.2.2.1 HM1.out.2.2.2.2.1 HM1.out.2.2.2.2.2 ((Below.refl _ w1).drew) hr2 hps2 hb2 40; have HAl := Lib.hid hal; have HS2 : Hid (w2.cell? ⟨g, 1, none⟩ = some (.pointer (some ⟨v, 0, none⟩))) := ((HS1.out.below hb3).cells.2); have HS4 : Hid (w4.cell? ⟨g, 1, none⟩ = some (.pointer (some ⟨v, 0, none⟩))) := ((HI.out.sg i g m v HGi.out |> fun (hq : SeatAt W1 g m v) => hq.bt hbt4).cells.2); have HS9 : Hid ((w4.setCell ⟨R, 0, none⟩ (.slice va (gs.length + 1) vc)).cell? ⟨g, 1, none⟩ = some (.pointer (some ⟨v, 0, none⟩))) := ((HI.out.sg i g m v HGi.out |> fun (hq : SeatAt W1 g m v) => hq.bt hbt).cells.2); have c2 : w2.cell? ⟨R, 0, none⟩ = some (.slice (some ⟨gb, off, none⟩) N cap) := (World.cell?_of_block (a := ⟨R, 0, none⟩) (hb3.block R hR1)).trans c1; have hR2 : R < w2.heap.size := Nat.lt_of_lt_of_le hR1 hb2.size; have hg2 : g < w2.heap.size := Nat.lt_of_lt_of_le hg1 hb2.size; have hsg := HS2.out; clear hr2 hps2 hb2 hb3 hal hbt hbt4) | (refine step_apS (by kernel_rfl) (.tmp 107) (.tmp 116) (by rfl) (by rfl) (by rfl) hrun ?_))
      all_goals
        go_wp2_with fail
        go_meet
        obtain ⟨col', hq⟩ := HAl.out
        exact ⟨col', va, vc, _, _, _, hq⟩
    case rest =>
      obtain ⟨col', va, vc, sx, vp', ps', hI2⟩ := hcut.out
      have hmc : Mac wc m' B' V' T' b.p.M rs ds 0 0 0 := (hI2.bus bs.length ⟨m', B', V', T', ⟨b.p.M, 0, 0, 0⟩⟩ (by simp)).mac
      have HL : Hid (Calls Tryz.prog 69 #[.pointer (some ⟨m', 0, none⟩)] wc fun e w' => e = .returned (.int .i64 ((0 : Nat) : Int)) ∧ w' = wc) := loads_any hmc
      have HS : Hid (Calls Tryz.prog 70 #[.pointer (some ⟨m', 0, none⟩)] wc fun e w' => e = .returned (.int .i64 ((0 : Nat) : Int)) ∧ w' = wc) := stores_any hmc
      have HX : Hid (Calls Tryz.prog 71 #[.pointer (some ⟨m', 0, none⟩)] wc fun e w' => e = .returned (.int .i64 ((0 : Nat) : Int)) ∧ w' = wc) := strays_any hmc
      have HFin : Hid (StP w0 bb R vr vd rs ds k (.returned (.bool true)) wc) := by
        obtain ⟨e1, e2, _, _, e5, e6⟩ := HE.out
        have hl := HN.out
        refine ⟨rfl, gs ++ [(sx, m', w1.heap.size)], ps ++ [⟨p.M, 0, 0, 0⟩], ⟨_, _, _, _, _, _, _, _, _, _, _, _, hI2, ?_, ?_⟩, ?_, ?_, fun q hq => ?_⟩
        · rw [List.map_append, e1, e5]
          rfl
        · rw [List.map_append, e2, e6]
          rfl
        · rw [List.length_append]
          simp
        · rw [List.length_append, hl]
          simp
          omega
        · rcases List.mem_append.1 hq with hq | hq
          · exact HPs.out q hq
          · obtain rfl := List.mem_singleton.1 hq
            exact ⟨Nat.zero_le _, Nat.zero_le _, Nat.zero_le _⟩
      clear hmc hI2 hcut HI HE HM1 HK1 HRm
      go_wp2_with (first | (go_at_call 69; refine HL.out.mono ?_; rintro e w' ⟨rfl, hw⟩; have hw := hw.symm; subst hw) | (go_at_call 70; refine HS.out.mono ?_; rintro e w' ⟨rfl, hw⟩; have hw := hw.symm; subst hw) | (go_at_call 71; refine HX.out.mono ?_; rintro e w' ⟨rfl, hw⟩; have hw := hw.symm; subst hw))
      go_ret
      exact HFin.out
end Go.Proofs.YtddgoncbdlhhhaaGreat
