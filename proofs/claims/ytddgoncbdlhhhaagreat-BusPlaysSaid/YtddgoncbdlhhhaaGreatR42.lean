import Derived.Test.YtddgoncbdlhhhaaGreatR40
import Derived.Test.YtddgoncbdlhhhaaGreatR41
import Derived.Test.YtddgoncbdlhhhaaGreatR35
/- BusPlays: a step: what is handed on (written by parts/gen_bpst.py). Own work. -/
namespace Go.Proofs.YtddgoncbdlhhhaaGreat
open Go.RowKit Go.Maps Go.Proofs.YtddgoncbdlhhhaaGreat.Sp Wk
set_option linter.unusedVariables false
set_option maxRecDepth 100000 in
set_option maxHeartbeats 8000000 in
theorem step_read {w0 w : World} {bb R : Nat} {vr vd : Value} {rs ds : List Sp} {gs : List (Nat × Nat × Nat)} {ps : List Ps} {k : Nat} {who n : Int} {a val : Nat} {pa : Option Addr} {pn pc : Nat} (hB : BusOk w0 vr vd rs ds) (h : Al w0 w bb R vr vd rs ds gs ps ps [] []) (h0 : 0 < gs.length) (h8 : gs.length ≤ 8) (hps : ∀ p ∈ ps, Ps.le p k) (hk : k ≤ 4000000000000000000) (ha : a ≤ 18446744073709551615) (hn : n ≤ 9223372036854775807) (hval : val ≤ 18446744073709551615) :
    Calls Tryz.prog 7 #[.pointer (some ⟨R, 0, none⟩), .agg #[.int .i64 4, .int .i64 who, .int .u64 (a : Int), .int .i64 n, .int .u64 (val : Int), .slice pa pn pc]] w (StP w0 bb R vr vd rs ds (k + 2)) := by
  obtain ⟨W1, hW1⟩ : ∃ W1, w.alloc (Obj.cells #[.int .i64 4, .int .i64 who, .int .u64 (a : Int), .int .i64 n, .int .u64 (val : Int), .slice pa pn pc] 29) = W1 := ⟨_, rfl⟩
  have hb1 : Below w.heap.size w W1 := hW1 ▸ (Below.refl _ _).alloc (Nat.le_refl _) _
  have HO1 : Hid (OpAt W1 w.heap.size 4 who a n val pa pn pc) := hW1 ▸ OpAt.new w 4 who a n val pa pn pc
  have HA1 : Hid (Al w0 W1 bb R vr vd rs ds gs ps ps [] []) := (h.low hb1).1
  have HL := Lib.hid h.lens.1
  have HPs : Hid (∀ p ∈ ps, Ps.le p k) := hps
  obtain ⟨gb, off, cap, c0, hcap, hrow⟩ := HA1.out.row h0
  obtain ⟨N, hN⟩ : ∃ N, gs.length = N := ⟨_, rfl⟩
  have HN := Lib.hid hN
  rw [hN] at h0 h8 hcap c0
  have HRow := Lib.hid hrow
  have HWi : Hid (∀ W, Calls Tryz.prog 17 #[.int .i64 who, .int .i64 0, .int .i64 ((N : Int) - 1)] W fun e w' => ∃ r : Nat, e = .returned (.int .i64 (r : Int)) ∧ r < N ∧ w' = W) := within_n h0 h8
  obtain ⟨o0, o1, o2, o3, o4, o5⟩ := HO1.out.cells
  have hw1 : IntKind.i64.wrap ((N : Int) - 1) = (N : Int) - 1 := by rw [IntKind.wrap_i64]; omega
  have HJ : Hid (∀ r, r < N → ∃ g m v p, gs[r]? = some (g, m, v) ∧ ps[r]? = some p ∧ W1.cell? ⟨gb, off + r, none⟩ = some (.pointer (some ⟨g, 0, none⟩)) ∧ Ps.le p k) := fun r hr => by
    have hl : r < gs.length := by rw [HN.out]; exact hr
    obtain ⟨g, m, v⟩ : Nat × Nat × Nat := gs[r]
    have hp : r < ps.length := by rw [HL.out]; exact hl
    exact ⟨gs[r].1, gs[r].2.1, gs[r].2.2, ps[r], List.getElem?_eq_getElem hl, List.getElem?_eq_getElem hp, HRow.out r _ _ _ (List.getElem?_eq_getElem hl), HPs.out _ (List.getElem_mem hp)⟩
  clear h hps hb1 hrow HRow hN
  go_enter Tryz.func7, Tryz.ntmps7
  go_upto_region 1 with fail
  try rw [hW1]
  clear hW1
  go_cut [5] (fun y wx => ∃ (i g m v : Nat) (p : Ps), y = .pointer (some ⟨g, 0, none⟩) ∧ gs[i]? = some (g, m, v) ∧ ps[i]? = some p ∧ Ps.le p k ∧ wx = W1.drew)
  case first =>
    go_region_held3 (fun w' => w' = W1.drew) (rfl) (first | (go_at_call 17; refine (HWi.out _).mono ?_; rintro e w' ⟨r, rfl, hr, hw⟩; subst hw; obtain ⟨g, m, v, p, hgr, hpr, hcr, hle⟩ := HJ.out r hr; have hri : (r : Int) < (N : Int) := by omega))
    all_goals
      go_wp2_with fail
      go_meet
      exact ⟨r, g, m, v, p, rfl, hgr, hpr, hle, rfl⟩
  case rest =>
    obtain ⟨i, g, m, v, p, rfl, hgi, hpi, hpk, hw⟩ := hcut
    subst hw
    have HDA : Hid (Al w0 W1.drew bb R vr vd rs ds gs ps ps [] []) := (HA1.out.low ((Below.refl _ _).drew)).1
    have HDO : Hid (OpAt W1.drew w.heap.size 4 who a n val pa pn pc) := HO1.out
    have HDS : Hid (SeatAt W1.drew g m v) := HDA.out.seat hgi
    have HGi := Lib.hid hgi
    have HPi := Lib.hid hpi
    generalize W1.drew = W2 at *
    obtain ⟨o0, o1, o2, o3, o4, o5⟩ := HDO.out.cells
    have HPk : Hid (Ps.le p k) := hpk
    clear HJ HWi HA1 HO1 c0 hgi hpi hpk
    have HC := Lib.hid (reads_any (kd := 4) (who := who) (val := val) (pa := pa) (pn := pn) (pc := pc) hB HDA.out HGi.out HPi.out HPs.out hk ha hn)
    go_wp2_with fail
    refine HC.out.mono ?_
    rintro e w3 ⟨rfl, ps', HA3, hle⟩
    go_wp2_with fail
    go_ret
    exact ⟨rfl, gs, ps', HA3, by rw [HN.out]; exact h0, by rw [HN.out]; exact h8, hle⟩
set_option maxRecDepth 100000 in
set_option maxHeartbeats 8000000 in
theorem step_write {w0 w : World} {bb R : Nat} {vr vd : Value} {rs ds : List Sp} {gs : List (Nat × Nat × Nat)} {ps : List Ps} {k : Nat} {who n : Int} {a val : Nat} {pa : Option Addr} {pc : Nat} {zs : List Nat} (hB : BusOk w0 vr vd rs ds) (h : Al w0 w bb R vr vd rs ds gs ps ps [] []) (h0 : 0 < gs.length) (h8 : gs.length ≤ 8) (hps : ∀ p ∈ ps, Ps.le p k) (hk : k ≤ 4000000000000000000) (ha : a ≤ 18446744073709551615) (hn : n ≤ 9223372036854775807) (hval : val ≤ 18446744073709551615) (hP : Sl w0 (.slice pa zs.length pc) zs) (hzl : zs.length ≤ 2147483647) :
    Calls Tryz.prog 7 #[.pointer (some ⟨R, 0, none⟩), .agg #[.int .i64 5, .int .i64 who, .int .u64 (a : Int), .int .i64 n, .int .u64 (val : Int), .slice pa zs.length pc]] w (StP w0 bb R vr vd rs ds (k + 2)) := by
  obtain ⟨W1, hW1⟩ : ∃ W1, w.alloc (Obj.cells #[.int .i64 5, .int .i64 who, .int .u64 (a : Int), .int .i64 n, .int .u64 (val : Int), .slice pa zs.length pc] 29) = W1 := ⟨_, rfl⟩
  have hb1 : Below w.heap.size w W1 := hW1 ▸ (Below.refl _ _).alloc (Nat.le_refl _) _
  have HO1 : Hid (OpAt W1 w.heap.size 5 who a n val pa zs.length pc) := hW1 ▸ OpAt.new w 5 who a n val pa zs.length pc
  have HA1 : Hid (Al w0 W1 bb R vr vd rs ds gs ps ps [] []) := (h.low hb1).1
  have HL := Lib.hid h.lens.1
  have HPs : Hid (∀ p ∈ ps, Ps.le p k) := hps
  obtain ⟨gb, off, cap, c0, hcap, hrow⟩ := HA1.out.row h0
  obtain ⟨N, hN⟩ : ∃ N, gs.length = N := ⟨_, rfl⟩
  have HN := Lib.hid hN
  rw [hN] at h0 h8 hcap c0
  have HRow := Lib.hid hrow
  have HWi : Hid (∀ W, Calls Tryz.prog 17 #[.int .i64 who, .int .i64 0, .int .i64 ((N : Int) - 1)] W fun e w' => ∃ r : Nat, e = .returned (.int .i64 (r : Int)) ∧ r < N ∧ w' = W) := within_n h0 h8
  obtain ⟨o0, o1, o2, o3, o4, o5⟩ := HO1.out.cells
  have hw1 : IntKind.i64.wrap ((N : Int) - 1) = (N : Int) - 1 := by rw [IntKind.wrap_i64]; omega
  have HJ : Hid (∀ r, r < N → ∃ g m v p, gs[r]? = some (g, m, v) ∧ ps[r]? = some p ∧ W1.cell? ⟨gb, off + r, none⟩ = some (.pointer (some ⟨g, 0, none⟩)) ∧ Ps.le p k) := fun r hr => by
    have hl : r < gs.length := by rw [HN.out]; exact hr
    obtain ⟨g, m, v⟩ : Nat × Nat × Nat := gs[r]
    have hp : r < ps.length := by rw [HL.out]; exact hl
    exact ⟨gs[r].1, gs[r].2.1, gs[r].2.2, ps[r], List.getElem?_eq_getElem hl, List.getElem?_eq_getElem hp, HRow.out r _ _ _ (List.getElem?_eq_getElem hl), HPs.out _ (List.getElem_mem hp)⟩
  clear h hps hb1 hrow HRow hN
  go_enter Tryz.func7, Tryz.ntmps7
  go_upto_region 1 with fail
  try rw [hW1]
  clear hW1
  go_cut [5] (fun y wx => ∃ (i g m v : Nat) (p : Ps), y = .pointer (some ⟨g, 0, none⟩) ∧ gs[i]? = some (g, m, v) ∧ ps[i]? = some p ∧ Ps.le p k ∧ wx = W1.drew)
  case first =>
    go_region_held3 (fun w' => w' = W1.drew) (rfl) (first | (go_at_call 17; refine (HWi.out _).mono ?_; rintro e w' ⟨r, rfl, hr, hw⟩; subst hw; obtain ⟨g, m, v, p, hgr, hpr, hcr, hle⟩ := HJ.out r hr; have hri : (r : Int) < (N : Int) := by omega))
    all_goals
      go_wp2_with fail
      go_meet
      exact ⟨r, g, m, v, p, rfl, hgr, hpr, hle, rfl⟩
  case rest =>
    obtain ⟨i, g, m, v, p, rfl, hgi, hpi, hpk, hw⟩ := hcut
    subst hw
    have HDA : Hid (Al w0 W1.drew bb R vr vd rs ds gs ps ps [] []) := (HA1.out.low ((Below.refl _ _).drew)).1
    have HDO : Hid (OpAt W1.drew w.heap.size 5 who a n val pa zs.length pc) := HO1.out
    have HDS : Hid (SeatAt W1.drew g m v) := HDA.out.seat hgi
    have HGi := Lib.hid hgi
    have HPi := Lib.hid hpi
    generalize W1.drew = W2 at *
    obtain ⟨o0, o1, o2, o3, o4, o5⟩ := HDO.out.cells
    have HPk : Hid (Ps.le p k) := hpk
    clear HJ HWi HA1 HO1 c0 hgi hpi hpk
    have HC := Lib.hid (writes_any (kd := 5) (who := who) (n := n) (val := val) (pc := pc) hB HDA.out HGi.out HPi.out HPs.out hk ha hP hzl)
    go_wp2_with fail
    refine HC.out.mono ?_
    rintro e w3 ⟨rfl, ps', HA3, hle⟩
    go_wp2_with fail
    go_ret
    exact ⟨rfl, gs, ps', HA3, by rw [HN.out]; exact h0, by rw [HN.out]; exact h8, hle⟩
set_option maxRecDepth 100000 in
set_option maxHeartbeats 8000000 in
theorem step_where {w0 w : World} {bb R : Nat} {vr vd : Value} {rs ds : List Sp} {gs : List (Nat × Nat × Nat)} {ps : List Ps} {k : Nat} {who n : Int} {a val : Nat} {pa : Option Addr} {pn pc : Nat} (hB : BusOk w0 vr vd rs ds) (h : Al w0 w bb R vr vd rs ds gs ps ps [] []) (h0 : 0 < gs.length) (h8 : gs.length ≤ 8) (hps : ∀ p ∈ ps, Ps.le p k) (hk : k ≤ 4000000000000000000) (ha : a ≤ 18446744073709551615) (hn : n ≤ 9223372036854775807) (hval : val ≤ 18446744073709551615) :
    Calls Tryz.prog 7 #[.pointer (some ⟨R, 0, none⟩), .agg #[.int .i64 7, .int .i64 who, .int .u64 (a : Int), .int .i64 n, .int .u64 (val : Int), .slice pa pn pc]] w (StP w0 bb R vr vd rs ds (k + 2)) := by
  obtain ⟨W1, hW1⟩ : ∃ W1, w.alloc (Obj.cells #[.int .i64 7, .int .i64 who, .int .u64 (a : Int), .int .i64 n, .int .u64 (val : Int), .slice pa pn pc] 29) = W1 := ⟨_, rfl⟩
  have hb1 : Below w.heap.size w W1 := hW1 ▸ (Below.refl _ _).alloc (Nat.le_refl _) _
  have HO1 : Hid (OpAt W1 w.heap.size 7 who a n val pa pn pc) := hW1 ▸ OpAt.new w 7 who a n val pa pn pc
  have HA1 : Hid (Al w0 W1 bb R vr vd rs ds gs ps ps [] []) := (h.low hb1).1
  have HL := Lib.hid h.lens.1
  have HPs : Hid (∀ p ∈ ps, Ps.le p k) := hps
  obtain ⟨gb, off, cap, c0, hcap, hrow⟩ := HA1.out.row h0
  obtain ⟨N, hN⟩ : ∃ N, gs.length = N := ⟨_, rfl⟩
  have HN := Lib.hid hN
  rw [hN] at h0 h8 hcap c0
  have HRow := Lib.hid hrow
  have HWi : Hid (∀ W, Calls Tryz.prog 17 #[.int .i64 who, .int .i64 0, .int .i64 ((N : Int) - 1)] W fun e w' => ∃ r : Nat, e = .returned (.int .i64 (r : Int)) ∧ r < N ∧ w' = W) := within_n h0 h8
  obtain ⟨o0, o1, o2, o3, o4, o5⟩ := HO1.out.cells
  have hw1 : IntKind.i64.wrap ((N : Int) - 1) = (N : Int) - 1 := by rw [IntKind.wrap_i64]; omega
  have HJ : Hid (∀ r, r < N → ∃ g m v p, gs[r]? = some (g, m, v) ∧ ps[r]? = some p ∧ W1.cell? ⟨gb, off + r, none⟩ = some (.pointer (some ⟨g, 0, none⟩)) ∧ Ps.le p k) := fun r hr => by
    have hl : r < gs.length := by rw [HN.out]; exact hr
    obtain ⟨g, m, v⟩ : Nat × Nat × Nat := gs[r]
    have hp : r < ps.length := by rw [HL.out]; exact hl
    exact ⟨gs[r].1, gs[r].2.1, gs[r].2.2, ps[r], List.getElem?_eq_getElem hl, List.getElem?_eq_getElem hp, HRow.out r _ _ _ (List.getElem?_eq_getElem hl), HPs.out _ (List.getElem_mem hp)⟩
  clear h hps hb1 hrow HRow hN
  go_enter Tryz.func7, Tryz.ntmps7
  go_upto_region 1 with fail
  try rw [hW1]
  clear hW1
  go_cut [5] (fun y wx => ∃ (i g m v : Nat) (p : Ps), y = .pointer (some ⟨g, 0, none⟩) ∧ gs[i]? = some (g, m, v) ∧ ps[i]? = some p ∧ Ps.le p k ∧ wx = W1.drew)
  case first =>
    go_region_held3 (fun w' => w' = W1.drew) (rfl) (first | (go_at_call 17; refine (HWi.out _).mono ?_; rintro e w' ⟨r, rfl, hr, hw⟩; subst hw; obtain ⟨g, m, v, p, hgr, hpr, hcr, hle⟩ := HJ.out r hr; have hri : (r : Int) < (N : Int) := by omega))
    all_goals
      go_wp2_with fail
      go_meet
      exact ⟨r, g, m, v, p, rfl, hgr, hpr, hle, rfl⟩
  case rest =>
    obtain ⟨i, g, m, v, p, rfl, hgi, hpi, hpk, hw⟩ := hcut
    subst hw
    have HDA : Hid (Al w0 W1.drew bb R vr vd rs ds gs ps ps [] []) := (HA1.out.low ((Below.refl _ _).drew)).1
    have HDO : Hid (OpAt W1.drew w.heap.size 7 who a n val pa pn pc) := HO1.out
    have HDS : Hid (SeatAt W1.drew g m v) := HDA.out.seat hgi
    have HGi := Lib.hid hgi
    have HPi := Lib.hid hpi
    generalize W1.drew = W2 at *
    obtain ⟨o0, o1, o2, o3, o4, o5⟩ := HDO.out.cells
    have HPk : Hid (Ps.le p k) := hpk
    clear HJ HWi HA1 HO1 c0 hgi hpi hpk
    have HC := Lib.hid (tells_where (who := who) (n := n) (val := val) (pa := pa) (pn := pn) (pc := pc) hB HDA.out HGi.out HPi.out (by rw [HN.out]; exact h0) (by rw [HN.out]; exact h8) HPs.out ha)
    go_wp2_with fail
    refine HC.out.mono ?_
    rintro e w3 ⟨rfl, gs', ps', HA3, hg0, hg8, hle⟩
    go_wp2_with fail
    go_ret
    exact ⟨rfl, gs', ps', HA3, hg0, hg8, fun q hq => (hle q hq).mono (by omega)⟩
set_option maxRecDepth 100000 in
set_option maxHeartbeats 8000000 in
theorem step_kept {w0 w : World} {bb R : Nat} {vr vd : Value} {rs ds : List Sp} {gs : List (Nat × Nat × Nat)} {ps : List Ps} {k : Nat} {who n : Int} {a val : Nat} {pa : Option Addr} {pn pc : Nat} (hB : BusOk w0 vr vd rs ds) (h : Al w0 w bb R vr vd rs ds gs ps ps [] []) (h0 : 0 < gs.length) (h8 : gs.length ≤ 8) (hps : ∀ p ∈ ps, Ps.le p k) (hk : k ≤ 4000000000000000000) (ha : a ≤ 18446744073709551615) (hn : n ≤ 9223372036854775807) (hval : val ≤ 18446744073709551615) :
    Calls Tryz.prog 7 #[.pointer (some ⟨R, 0, none⟩), .agg #[.int .i64 8, .int .i64 who, .int .u64 (a : Int), .int .i64 n, .int .u64 (val : Int), .slice pa pn pc]] w (StP w0 bb R vr vd rs ds (k + 2)) := by
  obtain ⟨W1, hW1⟩ : ∃ W1, w.alloc (Obj.cells #[.int .i64 8, .int .i64 who, .int .u64 (a : Int), .int .i64 n, .int .u64 (val : Int), .slice pa pn pc] 29) = W1 := ⟨_, rfl⟩
  have hb1 : Below w.heap.size w W1 := hW1 ▸ (Below.refl _ _).alloc (Nat.le_refl _) _
  have HO1 : Hid (OpAt W1 w.heap.size 8 who a n val pa pn pc) := hW1 ▸ OpAt.new w 8 who a n val pa pn pc
  have HA1 : Hid (Al w0 W1 bb R vr vd rs ds gs ps ps [] []) := (h.low hb1).1
  have HL := Lib.hid h.lens.1
  have HPs : Hid (∀ p ∈ ps, Ps.le p k) := hps
  obtain ⟨gb, off, cap, c0, hcap, hrow⟩ := HA1.out.row h0
  obtain ⟨N, hN⟩ : ∃ N, gs.length = N := ⟨_, rfl⟩
  have HN := Lib.hid hN
  rw [hN] at h0 h8 hcap c0
  have HRow := Lib.hid hrow
  have HWi : Hid (∀ W, Calls Tryz.prog 17 #[.int .i64 who, .int .i64 0, .int .i64 ((N : Int) - 1)] W fun e w' => ∃ r : Nat, e = .returned (.int .i64 (r : Int)) ∧ r < N ∧ w' = W) := within_n h0 h8
  obtain ⟨o0, o1, o2, o3, o4, o5⟩ := HO1.out.cells
  have hw1 : IntKind.i64.wrap ((N : Int) - 1) = (N : Int) - 1 := by rw [IntKind.wrap_i64]; omega
  have HJ : Hid (∀ r, r < N → ∃ g m v p, gs[r]? = some (g, m, v) ∧ ps[r]? = some p ∧ W1.cell? ⟨gb, off + r, none⟩ = some (.pointer (some ⟨g, 0, none⟩)) ∧ Ps.le p k) := fun r hr => by
    have hl : r < gs.length := by rw [HN.out]; exact hr
    obtain ⟨g, m, v⟩ : Nat × Nat × Nat := gs[r]
    have hp : r < ps.length := by rw [HL.out]; exact hl
    exact ⟨gs[r].1, gs[r].2.1, gs[r].2.2, ps[r], List.getElem?_eq_getElem hl, List.getElem?_eq_getElem hp, HRow.out r _ _ _ (List.getElem?_eq_getElem hl), HPs.out _ (List.getElem_mem hp)⟩
  clear h hps hb1 hrow HRow hN
  go_enter Tryz.func7, Tryz.ntmps7
  go_upto_region 1 with fail
  try rw [hW1]
  clear hW1
  go_cut [5] (fun y wx => ∃ (i g m v : Nat) (p : Ps), y = .pointer (some ⟨g, 0, none⟩) ∧ gs[i]? = some (g, m, v) ∧ ps[i]? = some p ∧ Ps.le p k ∧ wx = W1.drew)
  case first =>
    go_region_held3 (fun w' => w' = W1.drew) (rfl) (first | (go_at_call 17; refine (HWi.out _).mono ?_; rintro e w' ⟨r, rfl, hr, hw⟩; subst hw; obtain ⟨g, m, v, p, hgr, hpr, hcr, hle⟩ := HJ.out r hr; have hri : (r : Int) < (N : Int) := by omega))
    all_goals
      go_wp2_with fail
      go_meet
      exact ⟨r, g, m, v, p, rfl, hgr, hpr, hle, rfl⟩
  case rest =>
    obtain ⟨i, g, m, v, p, rfl, hgi, hpi, hpk, hw⟩ := hcut
    subst hw
    have HDA : Hid (Al w0 W1.drew bb R vr vd rs ds gs ps ps [] []) := (HA1.out.low ((Below.refl _ _).drew)).1
    have HDO : Hid (OpAt W1.drew w.heap.size 8 who a n val pa pn pc) := HO1.out
    have HDS : Hid (SeatAt W1.drew g m v) := HDA.out.seat hgi
    have HGi := Lib.hid hgi
    have HPi := Lib.hid hpi
    generalize W1.drew = W2 at *
    obtain ⟨o0, o1, o2, o3, o4, o5⟩ := HDO.out.cells
    have HPk : Hid (Ps.le p k) := hpk
    clear HJ HWi HA1 HO1 c0 hgi hpi hpk
    have HC := Lib.hid (tells_kept (who := who) (n := n) (val := val) (pa := pa) (pn := pn) (pc := pc) hB HDA.out HGi.out HPi.out (by rw [HN.out]; exact h0) (by rw [HN.out]; exact h8) HPs.out ha)
    go_wp2_with fail
    refine HC.out.mono ?_
    rintro e w3 ⟨rfl, gs', ps', HA3, hg0, hg8, hle⟩
    go_wp2_with fail
    go_ret
    exact ⟨rfl, gs', ps', HA3, hg0, hg8, fun q hq => (hle q hq).mono (by omega)⟩
set_option maxRecDepth 100000 in
set_option maxHeartbeats 8000000 in
theorem step_meter {w0 w : World} {bb R : Nat} {vr vd : Value} {rs ds : List Sp} {gs : List (Nat × Nat × Nat)} {ps : List Ps} {k : Nat} {who n : Int} {a val : Nat} {pa : Option Addr} {pn pc : Nat} (hB : BusOk w0 vr vd rs ds) (h : Al w0 w bb R vr vd rs ds gs ps ps [] []) (h0 : 0 < gs.length) (h8 : gs.length ≤ 8) (hps : ∀ p ∈ ps, Ps.le p k) (hk : k ≤ 4000000000000000000) (ha : a ≤ 18446744073709551615) (hn : n ≤ 9223372036854775807) (hval : val ≤ 18446744073709551615) :
    Calls Tryz.prog 7 #[.pointer (some ⟨R, 0, none⟩), .agg #[.int .i64 9, .int .i64 who, .int .u64 (a : Int), .int .i64 n, .int .u64 (val : Int), .slice pa pn pc]] w (StP w0 bb R vr vd rs ds (k + 2)) := by
  obtain ⟨W1, hW1⟩ : ∃ W1, w.alloc (Obj.cells #[.int .i64 9, .int .i64 who, .int .u64 (a : Int), .int .i64 n, .int .u64 (val : Int), .slice pa pn pc] 29) = W1 := ⟨_, rfl⟩
  have hb1 : Below w.heap.size w W1 := hW1 ▸ (Below.refl _ _).alloc (Nat.le_refl _) _
  have HO1 : Hid (OpAt W1 w.heap.size 9 who a n val pa pn pc) := hW1 ▸ OpAt.new w 9 who a n val pa pn pc
  have HA1 : Hid (Al w0 W1 bb R vr vd rs ds gs ps ps [] []) := (h.low hb1).1
  have HL := Lib.hid h.lens.1
  have HPs : Hid (∀ p ∈ ps, Ps.le p k) := hps
  obtain ⟨gb, off, cap, c0, hcap, hrow⟩ := HA1.out.row h0
  obtain ⟨N, hN⟩ : ∃ N, gs.length = N := ⟨_, rfl⟩
  have HN := Lib.hid hN
  rw [hN] at h0 h8 hcap c0
  have HRow := Lib.hid hrow
  have HWi : Hid (∀ W, Calls Tryz.prog 17 #[.int .i64 who, .int .i64 0, .int .i64 ((N : Int) - 1)] W fun e w' => ∃ r : Nat, e = .returned (.int .i64 (r : Int)) ∧ r < N ∧ w' = W) := within_n h0 h8
  obtain ⟨o0, o1, o2, o3, o4, o5⟩ := HO1.out.cells
  have hw1 : IntKind.i64.wrap ((N : Int) - 1) = (N : Int) - 1 := by rw [IntKind.wrap_i64]; omega
  have HJ : Hid (∀ r, r < N → ∃ g m v p, gs[r]? = some (g, m, v) ∧ ps[r]? = some p ∧ W1.cell? ⟨gb, off + r, none⟩ = some (.pointer (some ⟨g, 0, none⟩)) ∧ Ps.le p k) := fun r hr => by
    have hl : r < gs.length := by rw [HN.out]; exact hr
    obtain ⟨g, m, v⟩ : Nat × Nat × Nat := gs[r]
    have hp : r < ps.length := by rw [HL.out]; exact hl
    exact ⟨gs[r].1, gs[r].2.1, gs[r].2.2, ps[r], List.getElem?_eq_getElem hl, List.getElem?_eq_getElem hp, HRow.out r _ _ _ (List.getElem?_eq_getElem hl), HPs.out _ (List.getElem_mem hp)⟩
  clear h hps hb1 hrow HRow hN
  go_enter Tryz.func7, Tryz.ntmps7
  go_upto_region 1 with fail
  try rw [hW1]
  clear hW1
  go_cut [5] (fun y wx => ∃ (i g m v : Nat) (p : Ps), y = .pointer (some ⟨g, 0, none⟩) ∧ gs[i]? = some (g, m, v) ∧ ps[i]? = some p ∧ Ps.le p k ∧ wx = W1.drew)
  case first =>
    go_region_held3 (fun w' => w' = W1.drew) (rfl) (first | (go_at_call 17; refine (HWi.out _).mono ?_; rintro e w' ⟨r, rfl, hr, hw⟩; subst hw; obtain ⟨g, m, v, p, hgr, hpr, hcr, hle⟩ := HJ.out r hr; have hri : (r : Int) < (N : Int) := by omega))
    all_goals
      go_wp2_with fail
      go_meet
      exact ⟨r, g, m, v, p, rfl, hgr, hpr, hle, rfl⟩
  case rest =>
    obtain ⟨i, g, m, v, p, rfl, hgi, hpi, hpk, hw⟩ := hcut
    subst hw
    have HDA : Hid (Al w0 W1.drew bb R vr vd rs ds gs ps ps [] []) := (HA1.out.low ((Below.refl _ _).drew)).1
    have HDO : Hid (OpAt W1.drew w.heap.size 9 who a n val pa pn pc) := HO1.out
    have HDS : Hid (SeatAt W1.drew g m v) := HDA.out.seat hgi
    have HGi := Lib.hid hgi
    have HPi := Lib.hid hpi
    generalize W1.drew = W2 at *
    obtain ⟨o0, o1, o2, o3, o4, o5⟩ := HDO.out.cells
    have HPk : Hid (Ps.le p k) := hpk
    clear HJ HWi HA1 HO1 c0 hgi hpi hpk
    have HC := Lib.hid (tells_meter (who := who) (n := n) (val := val) (pa := pa) (pn := pn) (pc := pc) hB HDA.out HGi.out HPi.out (by rw [HN.out]; exact h0) (by rw [HN.out]; exact h8) HPs.out ha)
    go_wp2_with fail
    refine HC.out.mono ?_
    rintro e w3 ⟨rfl, gs', ps', HA3, hg0, hg8, hle⟩
    go_wp2_with fail
    go_ret
    exact ⟨rfl, gs', ps', HA3, hg0, hg8, fun q hq => (hle q hq).mono (by omega)⟩
set_option maxRecDepth 100000 in
set_option maxHeartbeats 8000000 in
theorem step_bus {w0 w : World} {bb R : Nat} {vr vd : Value} {rs ds : List Sp} {gs : List (Nat × Nat × Nat)} {ps : List Ps} {k : Nat} {who n : Int} {a val : Nat} {pa : Option Addr} {pn pc : Nat} (hB : BusOk w0 vr vd rs ds) (h : Al w0 w bb R vr vd rs ds gs ps ps [] []) (h0 : 0 < gs.length) (h8 : gs.length ≤ 8) (hps : ∀ p ∈ ps, Ps.le p k) (hk : k ≤ 4000000000000000000) (ha : a ≤ 18446744073709551615) (hn : n ≤ 9223372036854775807) (hval : val ≤ 18446744073709551615) :
    Calls Tryz.prog 7 #[.pointer (some ⟨R, 0, none⟩), .agg #[.int .i64 10, .int .i64 who, .int .u64 (a : Int), .int .i64 n, .int .u64 (val : Int), .slice pa pn pc]] w (StP w0 bb R vr vd rs ds (k + 2)) := by
  obtain ⟨W1, hW1⟩ : ∃ W1, w.alloc (Obj.cells #[.int .i64 10, .int .i64 who, .int .u64 (a : Int), .int .i64 n, .int .u64 (val : Int), .slice pa pn pc] 29) = W1 := ⟨_, rfl⟩
  have hb1 : Below w.heap.size w W1 := hW1 ▸ (Below.refl _ _).alloc (Nat.le_refl _) _
  have HO1 : Hid (OpAt W1 w.heap.size 10 who a n val pa pn pc) := hW1 ▸ OpAt.new w 10 who a n val pa pn pc
  have HA1 : Hid (Al w0 W1 bb R vr vd rs ds gs ps ps [] []) := (h.low hb1).1
  have HL := Lib.hid h.lens.1
  have HPs : Hid (∀ p ∈ ps, Ps.le p k) := hps
  obtain ⟨gb, off, cap, c0, hcap, hrow⟩ := HA1.out.row h0
  obtain ⟨N, hN⟩ : ∃ N, gs.length = N := ⟨_, rfl⟩
  have HN := Lib.hid hN
  rw [hN] at h0 h8 hcap c0
  have HRow := Lib.hid hrow
  have HWi : Hid (∀ W, Calls Tryz.prog 17 #[.int .i64 who, .int .i64 0, .int .i64 ((N : Int) - 1)] W fun e w' => ∃ r : Nat, e = .returned (.int .i64 (r : Int)) ∧ r < N ∧ w' = W) := within_n h0 h8
  obtain ⟨o0, o1, o2, o3, o4, o5⟩ := HO1.out.cells
  have hw1 : IntKind.i64.wrap ((N : Int) - 1) = (N : Int) - 1 := by rw [IntKind.wrap_i64]; omega
  have HJ : Hid (∀ r, r < N → ∃ g m v p, gs[r]? = some (g, m, v) ∧ ps[r]? = some p ∧ W1.cell? ⟨gb, off + r, none⟩ = some (.pointer (some ⟨g, 0, none⟩)) ∧ Ps.le p k) := fun r hr => by
    have hl : r < gs.length := by rw [HN.out]; exact hr
    obtain ⟨g, m, v⟩ : Nat × Nat × Nat := gs[r]
    have hp : r < ps.length := by rw [HL.out]; exact hl
    exact ⟨gs[r].1, gs[r].2.1, gs[r].2.2, ps[r], List.getElem?_eq_getElem hl, List.getElem?_eq_getElem hp, HRow.out r _ _ _ (List.getElem?_eq_getElem hl), HPs.out _ (List.getElem_mem hp)⟩
  clear h hps hb1 hrow HRow hN
  go_enter Tryz.func7, Tryz.ntmps7
  go_upto_region 1 with fail
  try rw [hW1]
  clear hW1
  go_cut [5] (fun y wx => ∃ (i g m v : Nat) (p : Ps), y = .pointer (some ⟨g, 0, none⟩) ∧ gs[i]? = some (g, m, v) ∧ ps[i]? = some p ∧ Ps.le p k ∧ wx = W1.drew)
  case first =>
    go_region_held3 (fun w' => w' = W1.drew) (rfl) (first | (go_at_call 17; refine (HWi.out _).mono ?_; rintro e w' ⟨r, rfl, hr, hw⟩; subst hw; obtain ⟨g, m, v, p, hgr, hpr, hcr, hle⟩ := HJ.out r hr; have hri : (r : Int) < (N : Int) := by omega))
    all_goals
      go_wp2_with fail
      go_meet
      exact ⟨r, g, m, v, p, rfl, hgr, hpr, hle, rfl⟩
  case rest =>
    obtain ⟨i, g, m, v, p, rfl, hgi, hpi, hpk, hw⟩ := hcut
    subst hw
    have HDA : Hid (Al w0 W1.drew bb R vr vd rs ds gs ps ps [] []) := (HA1.out.low ((Below.refl _ _).drew)).1
    have HDO : Hid (OpAt W1.drew w.heap.size 10 who a n val pa pn pc) := HO1.out
    have HDS : Hid (SeatAt W1.drew g m v) := HDA.out.seat hgi
    have HGi := Lib.hid hgi
    have HPi := Lib.hid hpi
    generalize W1.drew = W2 at *
    obtain ⟨o0, o1, o2, o3, o4, o5⟩ := HDO.out.cells
    have HPk : Hid (Ps.le p k) := hpk
    clear HJ HWi HA1 HO1 c0 hgi hpi hpk
    have HC := Lib.hid (tells_bus (who := who) (n := n) (val := val) (pa := pa) (pn := pn) (pc := pc) hB HDA.out HGi.out HPi.out (by rw [HN.out]; exact h0) (by rw [HN.out]; exact h8) HPs.out ha)
    go_wp2_with fail
    refine HC.out.mono ?_
    rintro e w3 ⟨rfl, gs', ps', HA3, hg0, hg8, hle⟩
    go_wp2_with fail
    go_ret
    exact ⟨rfl, gs', ps', HA3, hg0, hg8, fun q hq => (hle q hq).mono (by omega)⟩
set_option maxRecDepth 100000 in
set_option maxHeartbeats 8000000 in
theorem step_clone {w0 w : World} {bb R : Nat} {vr vd : Value} {rs ds : List Sp} {gs : List (Nat × Nat × Nat)} {ps : List Ps} {k : Nat} {who n : Int} {a val : Nat} {pa : Option Addr} {pn pc : Nat} (hB : BusOk w0 vr vd rs ds) (h : Al w0 w bb R vr vd rs ds gs ps ps [] []) (h0 : 0 < gs.length) (h8 : gs.length ≤ 8) (hps : ∀ p ∈ ps, Ps.le p k) (hk : k ≤ 4000000000000000000) (ha : a ≤ 18446744073709551615) (hn : n ≤ 9223372036854775807) (hval : val ≤ 18446744073709551615) :
    Calls Tryz.prog 7 #[.pointer (some ⟨R, 0, none⟩), .agg #[.int .i64 11, .int .i64 who, .int .u64 (a : Int), .int .i64 n, .int .u64 (val : Int), .slice pa pn pc]] w (StP w0 bb R vr vd rs ds (k + 2)) := by
  obtain ⟨W1, hW1⟩ : ∃ W1, w.alloc (Obj.cells #[.int .i64 11, .int .i64 who, .int .u64 (a : Int), .int .i64 n, .int .u64 (val : Int), .slice pa pn pc] 29) = W1 := ⟨_, rfl⟩
  have hb1 : Below w.heap.size w W1 := hW1 ▸ (Below.refl _ _).alloc (Nat.le_refl _) _
  have HO1 : Hid (OpAt W1 w.heap.size 11 who a n val pa pn pc) := hW1 ▸ OpAt.new w 11 who a n val pa pn pc
  have HA1 : Hid (Al w0 W1 bb R vr vd rs ds gs ps ps [] []) := (h.low hb1).1
  have HL := Lib.hid h.lens.1
  have HPs : Hid (∀ p ∈ ps, Ps.le p k) := hps
  obtain ⟨gb, off, cap, c0, hcap, hrow⟩ := HA1.out.row h0
  obtain ⟨N, hN⟩ : ∃ N, gs.length = N := ⟨_, rfl⟩
  have HN := Lib.hid hN
  rw [hN] at h0 h8 hcap c0
  have HRow := Lib.hid hrow
  have HWi : Hid (∀ W, Calls Tryz.prog 17 #[.int .i64 who, .int .i64 0, .int .i64 ((N : Int) - 1)] W fun e w' => ∃ r : Nat, e = .returned (.int .i64 (r : Int)) ∧ r < N ∧ w' = W) := within_n h0 h8
  obtain ⟨o0, o1, o2, o3, o4, o5⟩ := HO1.out.cells
  have hw1 : IntKind.i64.wrap ((N : Int) - 1) = (N : Int) - 1 := by rw [IntKind.wrap_i64]; omega
  have HJ : Hid (∀ r, r < N → ∃ g m v p, gs[r]? = some (g, m, v) ∧ ps[r]? = some p ∧ W1.cell? ⟨gb, off + r, none⟩ = some (.pointer (some ⟨g, 0, none⟩)) ∧ Ps.le p k) := fun r hr => by
    have hl : r < gs.length := by rw [HN.out]; exact hr
    obtain ⟨g, m, v⟩ : Nat × Nat × Nat := gs[r]
    have hp : r < ps.length := by rw [HL.out]; exact hl
    exact ⟨gs[r].1, gs[r].2.1, gs[r].2.2, ps[r], List.getElem?_eq_getElem hl, List.getElem?_eq_getElem hp, HRow.out r _ _ _ (List.getElem?_eq_getElem hl), HPs.out _ (List.getElem_mem hp)⟩
  clear h hps hb1 hrow HRow hN
  go_enter Tryz.func7, Tryz.ntmps7
  go_upto_region 1 with fail
  try rw [hW1]
  clear hW1
  go_cut [5] (fun y wx => ∃ (i g m v : Nat) (p : Ps), y = .pointer (some ⟨g, 0, none⟩) ∧ gs[i]? = some (g, m, v) ∧ ps[i]? = some p ∧ Ps.le p k ∧ wx = W1.drew)
  case first =>
    go_region_held3 (fun w' => w' = W1.drew) (rfl) (first | (go_at_call 17; refine (HWi.out _).mono ?_; rintro e w' ⟨r, rfl, hr, hw⟩; subst hw; obtain ⟨g, m, v, p, hgr, hpr, hcr, hle⟩ := HJ.out r hr; have hri : (r : Int) < (N : Int) := by omega))
    all_goals
      go_wp2_with fail
      go_meet
      exact ⟨r, g, m, v, p, rfl, hgr, hpr, hle, rfl⟩
  case rest =>
    obtain ⟨i, g, m, v, p, rfl, hgi, hpi, hpk, hw⟩ := hcut
    subst hw
    have HDA : Hid (Al w0 W1.drew bb R vr vd rs ds gs ps ps [] []) := (HA1.out.low ((Below.refl _ _).drew)).1
    have HDO : Hid (OpAt W1.drew w.heap.size 11 who a n val pa pn pc) := HO1.out
    have HDS : Hid (SeatAt W1.drew g m v) := HDA.out.seat hgi
    have HGi := Lib.hid hgi
    have HPi := Lib.hid hpi
    generalize W1.drew = W2 at *
    obtain ⟨o0, o1, o2, o3, o4, o5⟩ := HDO.out.cells
    have HPk : Hid (Ps.le p k) := hpk
    clear HJ HWi HA1 HO1 c0 hgi hpi hpk
    have HC := Lib.hid (tells_clone (who := who) (n := n) (val := val) (pa := pa) (pn := pn) (pc := pc) hB HDA.out HGi.out HPi.out (by rw [HN.out]; exact h0) (by rw [HN.out]; exact h8) HPs.out ha)
    go_wp2_with fail
    refine HC.out.mono ?_
    rintro e w3 ⟨rfl, gs', ps', HA3, hg0, hg8, hle⟩
    go_wp2_with fail
    go_ret
    exact ⟨rfl, gs', ps', HA3, hg0, hg8, fun q hq => (hle q hq).mono (by omega)⟩
end Go.Proofs.YtddgoncbdlhhhaaGreat
/- BusPlays: a step: Load, Peek (written by parts/gen_bpst.py). Own work. -/
namespace Go.Proofs.YtddgoncbdlhhhaaGreat
open Go.RowKit Go.Maps Go.Proofs.YtddgoncbdlhhhaaGreat.Sp Wk
set_option linter.unusedVariables false
set_option maxRecDepth 100000 in
set_option maxHeartbeats 8000000 in
theorem step_load {w0 w : World} {bb R : Nat} {vr vd : Value} {rs ds : List Sp} {gs : List (Nat × Nat × Nat)} {ps : List Ps} {k : Nat} {who n : Int} {a val : Nat} {pa : Option Addr} {pn pc : Nat} (hB : BusOk w0 vr vd rs ds) (h : Al w0 w bb R vr vd rs ds gs ps ps [] []) (h0 : 0 < gs.length) (h8 : gs.length ≤ 8) (hps : ∀ p ∈ ps, Ps.le p k) (hk : k ≤ 4000000000000000000) (ha : a ≤ 18446744073709551615) (hn : n ≤ 9223372036854775807) (hval : val ≤ 18446744073709551615) :
    Calls Tryz.prog 7 #[.pointer (some ⟨R, 0, none⟩), .agg #[.int .i64 1, .int .i64 who, .int .u64 (a : Int), .int .i64 n, .int .u64 (val : Int), .slice pa pn pc]] w (StP w0 bb R vr vd rs ds (k + 2)) := by
  obtain ⟨W1, hW1⟩ : ∃ W1, w.alloc (Obj.cells #[.int .i64 1, .int .i64 who, .int .u64 (a : Int), .int .i64 n, .int .u64 (val : Int), .slice pa pn pc] 29) = W1 := ⟨_, rfl⟩
  have hb1 : Below w.heap.size w W1 := hW1 ▸ (Below.refl _ _).alloc (Nat.le_refl _) _
  have HO1 : Hid (OpAt W1 w.heap.size 1 who a n val pa pn pc) := hW1 ▸ OpAt.new w 1 who a n val pa pn pc
  have HA1 : Hid (Al w0 W1 bb R vr vd rs ds gs ps ps [] []) := (h.low hb1).1
  have HL := Lib.hid h.lens.1
  have HPs : Hid (∀ p ∈ ps, Ps.le p k) := hps
  obtain ⟨gb, off, cap, c0, hcap, hrow⟩ := HA1.out.row h0
  obtain ⟨N, hN⟩ : ∃ N, gs.length = N := ⟨_, rfl⟩
  have HN := Lib.hid hN
  rw [hN] at h0 h8 hcap c0
  have HRow := Lib.hid hrow
  have HWi : Hid (∀ W, Calls Tryz.prog 17 #[.int .i64 who, .int .i64 0, .int .i64 ((N : Int) - 1)] W fun e w' => ∃ r : Nat, e = .returned (.int .i64 (r : Int)) ∧ r < N ∧ w' = W) := within_n h0 h8
  obtain ⟨o0, o1, o2, o3, o4, o5⟩ := HO1.out.cells
  have hw1 : IntKind.i64.wrap ((N : Int) - 1) = (N : Int) - 1 := by rw [IntKind.wrap_i64]; omega
  have HJ : Hid (∀ r, r < N → ∃ g m v p, gs[r]? = some (g, m, v) ∧ ps[r]? = some p ∧ W1.cell? ⟨gb, off + r, none⟩ = some (.pointer (some ⟨g, 0, none⟩)) ∧ Ps.le p k) := fun r hr => by
    have hl : r < gs.length := by rw [HN.out]; exact hr
    obtain ⟨g, m, v⟩ : Nat × Nat × Nat := gs[r]
    have hp : r < ps.length := by rw [HL.out]; exact hl
    exact ⟨gs[r].1, gs[r].2.1, gs[r].2.2, ps[r], List.getElem?_eq_getElem hl, List.getElem?_eq_getElem hp, HRow.out r _ _ _ (List.getElem?_eq_getElem hl), HPs.out _ (List.getElem_mem hp)⟩
  clear h hps hb1 hrow HRow hN
  go_enter Tryz.func7, Tryz.ntmps7
  go_upto_region 1 with fail
  try rw [hW1]
  clear hW1
  go_cut [5] (fun y wx => ∃ (i g m v : Nat) (p : Ps), y = .pointer (some ⟨g, 0, none⟩) ∧ gs[i]? = some (g, m, v) ∧ ps[i]? = some p ∧ Ps.le p k ∧ wx = W1.drew)
  case first =>
    go_region_held3 (fun w' => w' = W1.drew) (rfl) (first | (go_at_call 17; refine (HWi.out _).mono ?_; rintro e w' ⟨r, rfl, hr, hw⟩; subst hw; obtain ⟨g, m, v, p, hgr, hpr, hcr, hle⟩ := HJ.out r hr; have hri : (r : Int) < (N : Int) := by omega))
    all_goals
      go_wp2_with fail
      go_meet
      exact ⟨r, g, m, v, p, rfl, hgr, hpr, hle, rfl⟩
  case rest =>
    obtain ⟨i, g, m, v, p, rfl, hgi, hpi, hpk, hw⟩ := hcut
    subst hw
    have HDA : Hid (Al w0 W1.drew bb R vr vd rs ds gs ps ps [] []) := (HA1.out.low ((Below.refl _ _).drew)).1
    have HDO : Hid (OpAt W1.drew w.heap.size 1 who a n val pa pn pc) := HO1.out
    have HDS : Hid (SeatAt W1.drew g m v) := HDA.out.seat hgi
    have HGi := Lib.hid hgi
    have HPi := Lib.hid hpi
    generalize W1.drew = W2 at *
    obtain ⟨o0, o1, o2, o3, o4, o5⟩ := HDO.out.cells
    have HPk : Hid (Ps.le p k) := hpk
    clear HJ HWi HA1 HO1 c0 hgi hpi hpk
    have HQ : Hid ((ldP (rs ++ ds) p a n).le (k + 2)) := (ldP_le (LL := rs ++ ds) (a := a) (n := n) HPk.out).mono (by omega)
    have HC1 : Hid (∀ W, Al w0 W bb R vr vd rs ds gs ps ps [] [] → Calls Tryz.prog 18 #[.pointer (some ⟨m, 0, none⟩), .int .u64 (a : Int), .int .i64 n] W fun e w' => e = .returned (.tuple #[.int .u64 (pkV (rs ++ ds) p a n), .agg #[.int .i64 (wyA (rs ++ ds) a n), .int .u64 (adA (rs ++ ds) a n)]]) ∧ Hid (Al w0 w' bb R vr vd rs ds gs (ps.set i (ldP (rs ++ ds) p a n)) ps [] []) ∧ Hid (Bt W w')) := fun W hW => c_load hW HGi.out HPi.out ha (HPk.out.mono (by omega))
    have HC2 : Hid (∀ W, Al w0 W bb R vr vd rs ds gs (ps.set i (ldP (rs ++ ds) p a n)) ps [] [] → Calls Tryz.prog 19 #[.pointer (some ⟨v, 0, none⟩), .int .u64 (a : Int), .int .i64 n] W fun e w' => e = .returned (.tuple #[.int .u64 (pkV (rs ++ ds) p a n), .agg #[.int .i64 (wyA (rs ++ ds) a n), .int .u64 (adA (rs ++ ds) a n)]]) ∧ Hid (Al w0 w' bb R vr vd rs ds gs (ps.set i (ldP (rs ++ ds) p a n)) (ps.set i (ldP (rs ++ ds) p a n)) [] []) ∧ Hid (Bt W w')) := fun W hW => d_load hB hW HGi.out HPi.out ha (HPk.out.mono (by omega))
    have HSm : Hid (∀ a b W, Calls Tryz.prog 20 #[.agg #[.int .i64 a, .int .u64 b], .agg #[.int .i64 a, .int .u64 b]] W fun e w' => e = .returned (.bool true) ∧ Below W.heap.size W w') := same_one
    obtain ⟨num, hnum⟩ : ∃ num : Int, num = pkV (rs ++ ds) p a n := ⟨_, rfl⟩
    obtain ⟨why, hwhy⟩ : ∃ why : Int, why = wyA (rs ++ ds) a n := ⟨_, rfl⟩
    obtain ⟨xx, hxx⟩ : ∃ xx : Int, xx = adA (rs ++ ds) a n := ⟨_, rfl⟩
    obtain ⟨q, hq⟩ : ∃ q : Ps, q = ldP (rs ++ ds) p a n := ⟨_, rfl⟩
    rw [← hnum, ← hwhy, ← hxx, ← hq] at HC1 HC2
    rw [← hq] at HQ
    clear hnum hwhy hxx hq
    go_wp2_with fail
    clear o0 o1 o2 o3 o4 o5
    have hgl := HDS.out.lt
    have hol := HDO.out.lt
    have hRl := HDA.out.R_lt
    have hne1 : g ≠ W2.heap.size := Nat.ne_of_lt hgl
    have hne2 : w.heap.size ≠ W2.heap.size := Nat.ne_of_lt hol
    have hbd : Below W2.heap.size W2 W2.drew := (Below.refl _ _).drew
    have hbx : Below W2.heap.size W2 (W2.alloc (Obj.cells #[.int .i64 0, .int .u64 0] 71)).drew := ((Below.refl _ _).alloc (Nat.le_refl _) _).drew
    have HA0 := Lib.hid (HDA.out.low hbd).1
    have HO0 := Lib.hid (HDO.out.below hbd)
    have HS0 := Lib.hid (HDS.out.below hbd)
    have HAb := Lib.hid (HDA.out.low hbx).1
    have HOb := Lib.hid (HDO.out.below hbx)
    have HSb := Lib.hid (HDS.out.below hbx)
    have HFb : Hid (BoxF (W2.alloc (Obj.cells #[.int .i64 0, .int .u64 0] 71)).drew W2.heap.size 0 0) := BoxF.new W2 0 0
    obtain ⟨s0, s1⟩ := HDS.out.cells
    obtain ⟨_, _, o2, o3, _⟩ := HDO.out.cells
    have HSz := Lib.hid (show W2.drew.cell? ⟨g, 0, none⟩ = some (.pointer (some ⟨m, 0, none⟩)) ∧ W2.drew.cell? ⟨w.heap.size, 2, none⟩ = some (.int .u64 (a : Int)) ∧ W2.drew.cell? ⟨w.heap.size, 3, none⟩ = some (.int .i64 n) from ⟨s0, o2, o3⟩)
    clear hbd hbx
    go_cut [6, 7] (fun y z wx => ∃ b1, y = .int .u64 num ∧ z = .pointer (some ⟨b1, 0, none⟩) ∧ Hid (BoxF wx b1 why xx ∧ Al w0 wx bb R vr vd rs ds gs (ps.set i q) ps [] [] ∧ OpAt wx w.heap.size 1 who a n val pa pn pc ∧ SeatAt wx g m v ∧ W2.heap.size ≤ b1 ∧ Bt W2 wx))
    case first =>
      go_region_held3 (fun wx => wx.cell? ⟨g, 0, none⟩ = some (.pointer (some ⟨m, 0, none⟩)) ∧ wx.cell? ⟨w.heap.size, 2, none⟩ = some (.int .u64 (a : Int)) ∧ wx.cell? ⟨w.heap.size, 3, none⟩ = some (.int .i64 n)) (first | exact HS9.out | exact HS1.out | exact HSz.out | go_keep) (first | (go_at_call 18; refine (HC1.out _ HA0.out).mono ?_; rintro e x1 ⟨rfl, HAx, HBx⟩; have HOx := Lib.hid (HO0.out.bt HBx.out); have HSx := Lib.hid (HS0.out.bt HBx.out); have HBy := Lib.hid (show Bt W2 x1 from HBx.out); have HS1 := Lib.hid (show x1.cell? ⟨g, 0, none⟩ = some (.pointer (some ⟨m, 0, none⟩)) ∧ x1.cell? ⟨w.heap.size, 2, none⟩ = some (.int .u64 (a : Int)) ∧ x1.cell? ⟨w.heap.size, 3, none⟩ = some (.int .i64 n) from ⟨HSx.out.cells.1, HOx.out.cells.2.2.1, HOx.out.cells.2.2.2.1⟩); have hgx := HSx.out.lt; have hox := HOx.out.lt; obtain ⟨y0, y2, y3⟩ := HS1.out) | (go_at_call 18; refine (HC1.out _ HAb.out).mono ?_; rintro e x1 ⟨rfl, HAx, HBx⟩; have HOx := Lib.hid (HOb.out.bt HBx.out); have HSx := Lib.hid (HSb.out.bt HBx.out); have HFx := Lib.hid (HFb.out.bt HBx.out); have HBy := Lib.hid (((Bt.below ((Below.refl _ W2).alloc (Nat.le_refl _) _)).trans HBx.out : Bt W2 x1)); obtain ⟨f0, f1, f2, f3⟩ := HFx.out.cells; have hfx := HFx.out.lt; have HS9 := Lib.hid (show ((x1.setCell ⟨W2.heap.size, 0, none⟩ (.int .i64 why)).setCell ⟨W2.heap.size, 1, none⟩ (.int .u64 xx)).cell? ⟨g, 0, none⟩ = some (.pointer (some ⟨m, 0, none⟩)) ∧ ((x1.setCell ⟨W2.heap.size, 0, none⟩ (.int .i64 why)).setCell ⟨W2.heap.size, 1, none⟩ (.int .u64 xx)).cell? ⟨w.heap.size, 2, none⟩ = some (.int .u64 (a : Int)) ∧ ((x1.setCell ⟨W2.heap.size, 0, none⟩ (.int .i64 why)).setCell ⟨W2.heap.size, 1, none⟩ (.int .u64 xx)).cell? ⟨w.heap.size, 3, none⟩ = some (.int .i64 n) from ⟨(HSx.out.keep1 (Keeps.two x1 W2.heap.size (.int .i64 why) (.int .u64 xx)) hne1).cells.1, (HOx.out.keep1 (Keeps.two x1 W2.heap.size (.int .i64 why) (.int .u64 xx)) hne2).cells.2.2.1, (HOx.out.keep1 (Keeps.two x1 W2.heap.size (.int .i64 why) (.int .u64 xx)) hne2).cells.2.2.2.1⟩); have HS1 := Lib.hid (show x1.cell? ⟨g, 0, none⟩ = some (.pointer (some ⟨m, 0, none⟩)) ∧ x1.cell? ⟨w.heap.size, 2, none⟩ = some (.int .u64 (a : Int)) ∧ x1.cell? ⟨w.heap.size, 3, none⟩ = some (.int .i64 n) from ⟨HSx.out.cells.1, HOx.out.cells.2.2.1, HOx.out.cells.2.2.2.1⟩); have hgx := HSx.out.lt; have hox := HOx.out.lt; obtain ⟨y0, y2, y3⟩ := HS1.out))
      all_goals
        go_wp2_with fail
        go_meet
        first
          | exact ⟨_, rfl, rfl, BoxF.new x1 why xx, (HAx.out.low ((Below.refl _ _).alloc (Nat.le_refl _) _)).1, HOx.out.below ((Below.refl _ _).alloc (Nat.le_refl _) _), HSx.out.below ((Below.refl _ _).alloc (Nat.le_refl _) _), HBy.out.1, HBy.out.trans (Bt.below ((Below.refl _ _).alloc (Nat.le_refl _) _))⟩
          | exact ⟨_, rfl, rfl, HFx.out.set why xx, HAx.out.box HFx.out (.inl rfl) (Nat.le_of_lt hRl) (Keeps.two x1 W2.heap.size _ _), HOx.out.keep1 (Keeps.two x1 W2.heap.size _ _) hne2, HSx.out.keep1 (Keeps.two x1 W2.heap.size _ _) hne1, Nat.le_refl _, HBy.out.trans_box (Keeps.two x1 W2.heap.size _ _)⟩
    case rest =>
      obtain ⟨b1, rfl, rfl, HR⟩ := hcut
      obtain ⟨hf3, ha3, ho3, hs3, hb3, _⟩ := HR.out
      have HEA := Lib.hid ha3
      have HEO := Lib.hid ho3
      have HES := Lib.hid hs3
      have HF3 := Lib.hid hf3
      clear HR hf3 ha3 ho3 hs3 HA0 HO0 HS0 HAb HOb HSb HFb HSz s0 s1 o2 o3 hgl hol hRl hne1 hne2 HC1
      go_wp2_with fail
      have hgl := HES.out.lt
      have hol := HEO.out.lt
      have hRl := HEA.out.R_lt
      have hne1 : g ≠ wc.heap.size := Nat.ne_of_lt hgl
      have hne2 : w.heap.size ≠ wc.heap.size := Nat.ne_of_lt hol
      have hbd : Below wc.heap.size wc wc.drew := (Below.refl _ _).drew
      have hbx : Below wc.heap.size wc (wc.alloc (Obj.cells #[.int .i64 0, .int .u64 0] 75)).drew := ((Below.refl _ _).alloc (Nat.le_refl _) _).drew
      have HA0 := Lib.hid (HEA.out.low hbd).1
      have HO0 := Lib.hid (HEO.out.below hbd)
      have HS0 := Lib.hid (HES.out.below hbd)
      have HAb := Lib.hid (HEA.out.low hbx).1
      have HOb := Lib.hid (HEO.out.below hbx)
      have HSb := Lib.hid (HES.out.below hbx)
      have HFb : Hid (BoxG (wc.alloc (Obj.cells #[.int .i64 0, .int .u64 0] 75)).drew wc.heap.size 0 0) := BoxG.new wc 0 0
      obtain ⟨s0, s1⟩ := HES.out.cells
      obtain ⟨_, _, o2, o3, _⟩ := HEO.out.cells
      have HSz := Lib.hid (show wc.drew.cell? ⟨g, 1, none⟩ = some (.pointer (some ⟨v, 0, none⟩)) ∧ wc.drew.cell? ⟨w.heap.size, 2, none⟩ = some (.int .u64 (a : Int)) ∧ wc.drew.cell? ⟨w.heap.size, 3, none⟩ = some (.int .i64 n) from ⟨s1, o2, o3⟩)
      clear hbd hbx
      go_cut [8, 9] (fun y z wx => ∃ b1, y = .int .u64 num ∧ z = .pointer (some ⟨b1, 0, none⟩) ∧ Hid (BoxG wx b1 why xx ∧ Al w0 wx bb R vr vd rs ds gs (ps.set i q) (ps.set i q) [] [] ∧ OpAt wx w.heap.size 1 who a n val pa pn pc ∧ SeatAt wx g m v ∧ wc.heap.size ≤ b1 ∧ Bt wc wx))
      case first =>
        go_region_held3 (fun wx => wx.cell? ⟨g, 1, none⟩ = some (.pointer (some ⟨v, 0, none⟩)) ∧ wx.cell? ⟨w.heap.size, 2, none⟩ = some (.int .u64 (a : Int)) ∧ wx.cell? ⟨w.heap.size, 3, none⟩ = some (.int .i64 n)) (first | exact HS9.out | exact HS1.out | exact HSz.out | go_keep) (first | (go_at_call 19; refine (HC2.out _ HA0.out).mono ?_; rintro e x1 ⟨rfl, HAx, HBx⟩; have HOx := Lib.hid (HO0.out.bt HBx.out); have HSx := Lib.hid (HS0.out.bt HBx.out); have HBy := Lib.hid (show Bt wc x1 from HBx.out); have HS1 := Lib.hid (show x1.cell? ⟨g, 1, none⟩ = some (.pointer (some ⟨v, 0, none⟩)) ∧ x1.cell? ⟨w.heap.size, 2, none⟩ = some (.int .u64 (a : Int)) ∧ x1.cell? ⟨w.heap.size, 3, none⟩ = some (.int .i64 n) from ⟨HSx.out.cells.2, HOx.out.cells.2.2.1, HOx.out.cells.2.2.2.1⟩); have hgx := HSx.out.lt; have hox := HOx.out.lt; obtain ⟨y0, y2, y3⟩ := HS1.out) | (go_at_call 19; refine (HC2.out _ HAb.out).mono ?_; rintro e x1 ⟨rfl, HAx, HBx⟩; have HOx := Lib.hid (HOb.out.bt HBx.out); have HSx := Lib.hid (HSb.out.bt HBx.out); have HFx := Lib.hid (HFb.out.bt HBx.out); have HBy := Lib.hid (((Bt.below ((Below.refl _ wc).alloc (Nat.le_refl _) _)).trans HBx.out : Bt wc x1)); obtain ⟨f0, f1, f2, f3⟩ := HFx.out.cells; have hfx := HFx.out.lt; have HS9 := Lib.hid (show ((x1.setCell ⟨wc.heap.size, 0, none⟩ (.int .i64 why)).setCell ⟨wc.heap.size, 1, none⟩ (.int .u64 xx)).cell? ⟨g, 1, none⟩ = some (.pointer (some ⟨v, 0, none⟩)) ∧ ((x1.setCell ⟨wc.heap.size, 0, none⟩ (.int .i64 why)).setCell ⟨wc.heap.size, 1, none⟩ (.int .u64 xx)).cell? ⟨w.heap.size, 2, none⟩ = some (.int .u64 (a : Int)) ∧ ((x1.setCell ⟨wc.heap.size, 0, none⟩ (.int .i64 why)).setCell ⟨wc.heap.size, 1, none⟩ (.int .u64 xx)).cell? ⟨w.heap.size, 3, none⟩ = some (.int .i64 n) from ⟨(HSx.out.keep1 (Keeps.two x1 wc.heap.size (.int .i64 why) (.int .u64 xx)) hne1).cells.2, (HOx.out.keep1 (Keeps.two x1 wc.heap.size (.int .i64 why) (.int .u64 xx)) hne2).cells.2.2.1, (HOx.out.keep1 (Keeps.two x1 wc.heap.size (.int .i64 why) (.int .u64 xx)) hne2).cells.2.2.2.1⟩); have HS1 := Lib.hid (show x1.cell? ⟨g, 1, none⟩ = some (.pointer (some ⟨v, 0, none⟩)) ∧ x1.cell? ⟨w.heap.size, 2, none⟩ = some (.int .u64 (a : Int)) ∧ x1.cell? ⟨w.heap.size, 3, none⟩ = some (.int .i64 n) from ⟨HSx.out.cells.2, HOx.out.cells.2.2.1, HOx.out.cells.2.2.2.1⟩); have hgx := HSx.out.lt; have hox := HOx.out.lt; obtain ⟨y0, y2, y3⟩ := HS1.out))
        all_goals
          go_wp2_with fail
          go_meet
          first
            | exact ⟨_, rfl, rfl, BoxG.new x1 why xx, (HAx.out.low ((Below.refl _ _).alloc (Nat.le_refl _) _)).1, HOx.out.below ((Below.refl _ _).alloc (Nat.le_refl _) _), HSx.out.below ((Below.refl _ _).alloc (Nat.le_refl _) _), HBy.out.1, HBy.out.trans (Bt.below ((Below.refl _ _).alloc (Nat.le_refl _) _))⟩
            | exact ⟨_, rfl, rfl, HFx.out.set why xx, HAx.out.box HFx.out (.inr (.inl rfl)) (Nat.le_of_lt hRl) (Keeps.two x1 wc.heap.size _ _), HOx.out.keep1 (Keeps.two x1 wc.heap.size _ _) hne2, HSx.out.keep1 (Keeps.two x1 wc.heap.size _ _) hne1, Nat.le_refl _, HBy.out.trans_box (Keeps.two x1 wc.heap.size _ _)⟩
      case rest =>
        obtain ⟨b2, rfl, rfl, HR⟩ := hcut
        obtain ⟨hg4, ha4, _, _, hb4, ht4⟩ := HR.out
        have hf4 : BoxF _ b1 why xx := HF3.out.bt ht4
        have HA4 := Lib.hid ha4
        obtain ⟨f0, f1, _, _⟩ := hf4.cells
        obtain ⟨e0, e1, _, _⟩ := hg4.cells
        clear HR ha4 hg4 HF3 HA0 HO0 HS0 HAb HOb HSb HFb HSz s0 s1 o2 o3 HC2 ht4
        go_wp2_with fail
        refine (HSm.out _ _ _).mono ?_
        rintro e w6 ⟨rfl, hb6⟩
        have HA6 := Lib.hid (HA4.out.low hb6).1
        clear hb6 HA4 f0 f1 e0 e1
        go_wp2_with fail
        go_ret
        exact ⟨rfl, gs, ps.set i q, HA6, by rw [HN.out]; exact h0, by rw [HN.out]; exact h8, le_set HPs.out (by omega) HQ.out⟩
set_option maxRecDepth 100000 in
set_option maxHeartbeats 8000000 in
theorem step_peek {w0 w : World} {bb R : Nat} {vr vd : Value} {rs ds : List Sp} {gs : List (Nat × Nat × Nat)} {ps : List Ps} {k : Nat} {who n : Int} {a val : Nat} {pa : Option Addr} {pn pc : Nat} (hB : BusOk w0 vr vd rs ds) (h : Al w0 w bb R vr vd rs ds gs ps ps [] []) (h0 : 0 < gs.length) (h8 : gs.length ≤ 8) (hps : ∀ p ∈ ps, Ps.le p k) (hk : k ≤ 4000000000000000000) (ha : a ≤ 18446744073709551615) (hn : n ≤ 9223372036854775807) (hval : val ≤ 18446744073709551615) :
    Calls Tryz.prog 7 #[.pointer (some ⟨R, 0, none⟩), .agg #[.int .i64 3, .int .i64 who, .int .u64 (a : Int), .int .i64 n, .int .u64 (val : Int), .slice pa pn pc]] w (StP w0 bb R vr vd rs ds (k + 2)) := by
  obtain ⟨W1, hW1⟩ : ∃ W1, w.alloc (Obj.cells #[.int .i64 3, .int .i64 who, .int .u64 (a : Int), .int .i64 n, .int .u64 (val : Int), .slice pa pn pc] 29) = W1 := ⟨_, rfl⟩
  have hb1 : Below w.heap.size w W1 := hW1 ▸ (Below.refl _ _).alloc (Nat.le_refl _) _
  have HO1 : Hid (OpAt W1 w.heap.size 3 who a n val pa pn pc) := hW1 ▸ OpAt.new w 3 who a n val pa pn pc
  have HA1 : Hid (Al w0 W1 bb R vr vd rs ds gs ps ps [] []) := (h.low hb1).1
  have HL := Lib.hid h.lens.1
  have HPs : Hid (∀ p ∈ ps, Ps.le p k) := hps
  obtain ⟨gb, off, cap, c0, hcap, hrow⟩ := HA1.out.row h0
  obtain ⟨N, hN⟩ : ∃ N, gs.length = N := ⟨_, rfl⟩
  have HN := Lib.hid hN
  rw [hN] at h0 h8 hcap c0
  have HRow := Lib.hid hrow
  have HWi : Hid (∀ W, Calls Tryz.prog 17 #[.int .i64 who, .int .i64 0, .int .i64 ((N : Int) - 1)] W fun e w' => ∃ r : Nat, e = .returned (.int .i64 (r : Int)) ∧ r < N ∧ w' = W) := within_n h0 h8
  obtain ⟨o0, o1, o2, o3, o4, o5⟩ := HO1.out.cells
  have hw1 : IntKind.i64.wrap ((N : Int) - 1) = (N : Int) - 1 := by rw [IntKind.wrap_i64]; omega
  have HJ : Hid (∀ r, r < N → ∃ g m v p, gs[r]? = some (g, m, v) ∧ ps[r]? = some p ∧ W1.cell? ⟨gb, off + r, none⟩ = some (.pointer (some ⟨g, 0, none⟩)) ∧ Ps.le p k) := fun r hr => by
    have hl : r < gs.length := by rw [HN.out]; exact hr
    obtain ⟨g, m, v⟩ : Nat × Nat × Nat := gs[r]
    have hp : r < ps.length := by rw [HL.out]; exact hl
    exact ⟨gs[r].1, gs[r].2.1, gs[r].2.2, ps[r], List.getElem?_eq_getElem hl, List.getElem?_eq_getElem hp, HRow.out r _ _ _ (List.getElem?_eq_getElem hl), HPs.out _ (List.getElem_mem hp)⟩
  clear h hps hb1 hrow HRow hN
  go_enter Tryz.func7, Tryz.ntmps7
  go_upto_region 1 with fail
  try rw [hW1]
  clear hW1
  go_cut [5] (fun y wx => ∃ (i g m v : Nat) (p : Ps), y = .pointer (some ⟨g, 0, none⟩) ∧ gs[i]? = some (g, m, v) ∧ ps[i]? = some p ∧ Ps.le p k ∧ wx = W1.drew)
  case first =>
    go_region_held3 (fun w' => w' = W1.drew) (rfl) (first | (go_at_call 17; refine (HWi.out _).mono ?_; rintro e w' ⟨r, rfl, hr, hw⟩; subst hw; obtain ⟨g, m, v, p, hgr, hpr, hcr, hle⟩ := HJ.out r hr; have hri : (r : Int) < (N : Int) := by omega))
    all_goals
      go_wp2_with fail
      go_meet
      exact ⟨r, g, m, v, p, rfl, hgr, hpr, hle, rfl⟩
  case rest =>
    obtain ⟨i, g, m, v, p, rfl, hgi, hpi, hpk, hw⟩ := hcut
    subst hw
    have HDA : Hid (Al w0 W1.drew bb R vr vd rs ds gs ps ps [] []) := (HA1.out.low ((Below.refl _ _).drew)).1
    have HDO : Hid (OpAt W1.drew w.heap.size 3 who a n val pa pn pc) := HO1.out
    have HDS : Hid (SeatAt W1.drew g m v) := HDA.out.seat hgi
    have HGi := Lib.hid hgi
    have HPi := Lib.hid hpi
    generalize W1.drew = W2 at *
    obtain ⟨o0, o1, o2, o3, o4, o5⟩ := HDO.out.cells
    have HPk : Hid (Ps.le p k) := hpk
    clear HJ HWi HA1 HO1 c0 hgi hpi hpk
    have HQ : Hid ((pkP (rs ++ ds) p a n).le (k + 2)) := (pkP_le (LL := rs ++ ds) (a := a) (n := n) HPk.out).mono (by omega)
    have HC1 : Hid (∀ W, Al w0 W bb R vr vd rs ds gs ps ps [] [] → Calls Tryz.prog 21 #[.pointer (some ⟨m, 0, none⟩), .int .u64 (a : Int), .int .i64 n] W fun e w' => e = .returned (.tuple #[.int .u64 (pkV (rs ++ ds) p a n), .agg #[.int .i64 (wyA (rs ++ ds) a n), .int .u64 (adA (rs ++ ds) a n)]]) ∧ Hid (Al w0 w' bb R vr vd rs ds gs (ps.set i (pkP (rs ++ ds) p a n)) ps [] []) ∧ Hid (Bt W w')) := fun W hW => c_peek hW HGi.out HPi.out ha (HPk.out.mono (by omega))
    have HC2 : Hid (∀ W, Al w0 W bb R vr vd rs ds gs (ps.set i (pkP (rs ++ ds) p a n)) ps [] [] → Calls Tryz.prog 22 #[.pointer (some ⟨v, 0, none⟩), .int .u64 (a : Int), .int .i64 n] W fun e w' => e = .returned (.tuple #[.int .u64 (pkV (rs ++ ds) p a n), .agg #[.int .i64 (wyA (rs ++ ds) a n), .int .u64 (adA (rs ++ ds) a n)]]) ∧ Hid (Al w0 w' bb R vr vd rs ds gs (ps.set i (pkP (rs ++ ds) p a n)) (ps.set i (pkP (rs ++ ds) p a n)) [] []) ∧ Hid (Bt W w')) := fun W hW => d_peek hB hW HGi.out HPi.out ha (HPk.out.mono (by omega))
    have HSm : Hid (∀ a b W, Calls Tryz.prog 20 #[.agg #[.int .i64 a, .int .u64 b], .agg #[.int .i64 a, .int .u64 b]] W fun e w' => e = .returned (.bool true) ∧ Below W.heap.size W w') := same_one
    obtain ⟨num, hnum⟩ : ∃ num : Int, num = pkV (rs ++ ds) p a n := ⟨_, rfl⟩
    obtain ⟨why, hwhy⟩ : ∃ why : Int, why = wyA (rs ++ ds) a n := ⟨_, rfl⟩
    obtain ⟨xx, hxx⟩ : ∃ xx : Int, xx = adA (rs ++ ds) a n := ⟨_, rfl⟩
    obtain ⟨q, hq⟩ : ∃ q : Ps, q = pkP (rs ++ ds) p a n := ⟨_, rfl⟩
    rw [← hnum, ← hwhy, ← hxx, ← hq] at HC1 HC2
    rw [← hq] at HQ
    clear hnum hwhy hxx hq
    go_wp2_with fail
    clear o0 o1 o2 o3 o4 o5
    have hgl := HDS.out.lt
    have hol := HDO.out.lt
    have hRl := HDA.out.R_lt
    have hne1 : g ≠ W2.heap.size := Nat.ne_of_lt hgl
    have hne2 : w.heap.size ≠ W2.heap.size := Nat.ne_of_lt hol
    have hbd : Below W2.heap.size W2 W2.drew := (Below.refl _ _).drew
    have hbx : Below W2.heap.size W2 (W2.alloc (Obj.cells #[.int .i64 0, .int .u64 0] 71)).drew := ((Below.refl _ _).alloc (Nat.le_refl _) _).drew
    have HA0 := Lib.hid (HDA.out.low hbd).1
    have HO0 := Lib.hid (HDO.out.below hbd)
    have HS0 := Lib.hid (HDS.out.below hbd)
    have HAb := Lib.hid (HDA.out.low hbx).1
    have HOb := Lib.hid (HDO.out.below hbx)
    have HSb := Lib.hid (HDS.out.below hbx)
    have HFb : Hid (BoxF (W2.alloc (Obj.cells #[.int .i64 0, .int .u64 0] 71)).drew W2.heap.size 0 0) := BoxF.new W2 0 0
    obtain ⟨s0, s1⟩ := HDS.out.cells
    obtain ⟨_, _, o2, o3, _⟩ := HDO.out.cells
    have HSz := Lib.hid (show W2.drew.cell? ⟨g, 0, none⟩ = some (.pointer (some ⟨m, 0, none⟩)) ∧ W2.drew.cell? ⟨w.heap.size, 2, none⟩ = some (.int .u64 (a : Int)) ∧ W2.drew.cell? ⟨w.heap.size, 3, none⟩ = some (.int .i64 n) from ⟨s0, o2, o3⟩)
    clear hbd hbx
    go_cut [10, 11] (fun y z wx => ∃ b1, y = .int .u64 num ∧ z = .pointer (some ⟨b1, 0, none⟩) ∧ Hid (BoxF wx b1 why xx ∧ Al w0 wx bb R vr vd rs ds gs (ps.set i q) ps [] [] ∧ OpAt wx w.heap.size 3 who a n val pa pn pc ∧ SeatAt wx g m v ∧ W2.heap.size ≤ b1 ∧ Bt W2 wx))
    case first =>
      go_region_held3 (fun wx => wx.cell? ⟨g, 0, none⟩ = some (.pointer (some ⟨m, 0, none⟩)) ∧ wx.cell? ⟨w.heap.size, 2, none⟩ = some (.int .u64 (a : Int)) ∧ wx.cell? ⟨w.heap.size, 3, none⟩ = some (.int .i64 n)) (first | exact HS9.out | exact HS1.out | exact HSz.out | go_keep) (first | (go_at_call 21; refine (HC1.out _ HA0.out).mono ?_; rintro e x1 ⟨rfl, HAx, HBx⟩; have HOx := Lib.hid (HO0.out.bt HBx.out); have HSx := Lib.hid (HS0.out.bt HBx.out); have HBy := Lib.hid (show Bt W2 x1 from HBx.out); have HS1 := Lib.hid (show x1.cell? ⟨g, 0, none⟩ = some (.pointer (some ⟨m, 0, none⟩)) ∧ x1.cell? ⟨w.heap.size, 2, none⟩ = some (.int .u64 (a : Int)) ∧ x1.cell? ⟨w.heap.size, 3, none⟩ = some (.int .i64 n) from ⟨HSx.out.cells.1, HOx.out.cells.2.2.1, HOx.out.cells.2.2.2.1⟩); have hgx := HSx.out.lt; have hox := HOx.out.lt; obtain ⟨y0, y2, y3⟩ := HS1.out) | (go_at_call 21; refine (HC1.out _ HAb.out).mono ?_; rintro e x1 ⟨rfl, HAx, HBx⟩; have HOx := Lib.hid (HOb.out.bt HBx.out); have HSx := Lib.hid (HSb.out.bt HBx.out); have HFx := Lib.hid (HFb.out.bt HBx.out); have HBy := Lib.hid (((Bt.below ((Below.refl _ W2).alloc (Nat.le_refl _) _)).trans HBx.out : Bt W2 x1)); obtain ⟨f0, f1, f2, f3⟩ := HFx.out.cells; have hfx := HFx.out.lt; have HS9 := Lib.hid (show ((x1.setCell ⟨W2.heap.size, 0, none⟩ (.int .i64 why)).setCell ⟨W2.heap.size, 1, none⟩ (.int .u64 xx)).cell? ⟨g, 0, none⟩ = some (.pointer (some ⟨m, 0, none⟩)) ∧ ((x1.setCell ⟨W2.heap.size, 0, none⟩ (.int .i64 why)).setCell ⟨W2.heap.size, 1, none⟩ (.int .u64 xx)).cell? ⟨w.heap.size, 2, none⟩ = some (.int .u64 (a : Int)) ∧ ((x1.setCell ⟨W2.heap.size, 0, none⟩ (.int .i64 why)).setCell ⟨W2.heap.size, 1, none⟩ (.int .u64 xx)).cell? ⟨w.heap.size, 3, none⟩ = some (.int .i64 n) from ⟨(HSx.out.keep1 (Keeps.two x1 W2.heap.size (.int .i64 why) (.int .u64 xx)) hne1).cells.1, (HOx.out.keep1 (Keeps.two x1 W2.heap.size (.int .i64 why) (.int .u64 xx)) hne2).cells.2.2.1, (HOx.out.keep1 (Keeps.two x1 W2.heap.size (.int .i64 why) (.int .u64 xx)) hne2).cells.2.2.2.1⟩); have HS1 := Lib.hid (show x1.cell? ⟨g, 0, none⟩ = some (.pointer (some ⟨m, 0, none⟩)) ∧ x1.cell? ⟨w.heap.size, 2, none⟩ = some (.int .u64 (a : Int)) ∧ x1.cell? ⟨w.heap.size, 3, none⟩ = some (.int .i64 n) from ⟨HSx.out.cells.1, HOx.out.cells.2.2.1, HOx.out.cells.2.2.2.1⟩); have hgx := HSx.out.lt; have hox := HOx.out.lt; obtain ⟨y0, y2, y3⟩ := HS1.out))
      all_goals
        go_wp2_with fail
        go_meet
        first
          | exact ⟨_, rfl, rfl, BoxF.new x1 why xx, (HAx.out.low ((Below.refl _ _).alloc (Nat.le_refl _) _)).1, HOx.out.below ((Below.refl _ _).alloc (Nat.le_refl _) _), HSx.out.below ((Below.refl _ _).alloc (Nat.le_refl _) _), HBy.out.1, HBy.out.trans (Bt.below ((Below.refl _ _).alloc (Nat.le_refl _) _))⟩
          | exact ⟨_, rfl, rfl, HFx.out.set why xx, HAx.out.box HFx.out (.inl rfl) (Nat.le_of_lt hRl) (Keeps.two x1 W2.heap.size _ _), HOx.out.keep1 (Keeps.two x1 W2.heap.size _ _) hne2, HSx.out.keep1 (Keeps.two x1 W2.heap.size _ _) hne1, Nat.le_refl _, HBy.out.trans_box (Keeps.two x1 W2.heap.size _ _)⟩
    case rest =>
      obtain ⟨b1, rfl, rfl, HR⟩ := hcut
      obtain ⟨hf3, ha3, ho3, hs3, hb3, _⟩ := HR.out
      have HEA := Lib.hid ha3
      have HEO := Lib.hid ho3
      have HES := Lib.hid hs3
      have HF3 := Lib.hid hf3
      clear HR hf3 ha3 ho3 hs3 HA0 HO0 HS0 HAb HOb HSb HFb HSz s0 s1 o2 o3 hgl hol hRl hne1 hne2 HC1
      go_wp2_with fail
      have hgl := HES.out.lt
      have hol := HEO.out.lt
      have hRl := HEA.out.R_lt
      have hne1 : g ≠ wc.heap.size := Nat.ne_of_lt hgl
      have hne2 : w.heap.size ≠ wc.heap.size := Nat.ne_of_lt hol
      have hbd : Below wc.heap.size wc wc.drew := (Below.refl _ _).drew
      have hbx : Below wc.heap.size wc (wc.alloc (Obj.cells #[.int .i64 0, .int .u64 0] 75)).drew := ((Below.refl _ _).alloc (Nat.le_refl _) _).drew
      have HA0 := Lib.hid (HEA.out.low hbd).1
      have HO0 := Lib.hid (HEO.out.below hbd)
      have HS0 := Lib.hid (HES.out.below hbd)
      have HAb := Lib.hid (HEA.out.low hbx).1
      have HOb := Lib.hid (HEO.out.below hbx)
      have HSb := Lib.hid (HES.out.below hbx)
      have HFb : Hid (BoxG (wc.alloc (Obj.cells #[.int .i64 0, .int .u64 0] 75)).drew wc.heap.size 0 0) := BoxG.new wc 0 0
      obtain ⟨s0, s1⟩ := HES.out.cells
      obtain ⟨_, _, o2, o3, _⟩ := HEO.out.cells
      have HSz := Lib.hid (show wc.drew.cell? ⟨g, 1, none⟩ = some (.pointer (some ⟨v, 0, none⟩)) ∧ wc.drew.cell? ⟨w.heap.size, 2, none⟩ = some (.int .u64 (a : Int)) ∧ wc.drew.cell? ⟨w.heap.size, 3, none⟩ = some (.int .i64 n) from ⟨s1, o2, o3⟩)
      clear hbd hbx
      go_cut [12, 13] (fun y z wx => ∃ b1, y = .int .u64 num ∧ z = .pointer (some ⟨b1, 0, none⟩) ∧ Hid (BoxG wx b1 why xx ∧ Al w0 wx bb R vr vd rs ds gs (ps.set i q) (ps.set i q) [] [] ∧ OpAt wx w.heap.size 3 who a n val pa pn pc ∧ SeatAt wx g m v ∧ wc.heap.size ≤ b1 ∧ Bt wc wx))
      case first =>
        go_region_held3 (fun wx => wx.cell? ⟨g, 1, none⟩ = some (.pointer (some ⟨v, 0, none⟩)) ∧ wx.cell? ⟨w.heap.size, 2, none⟩ = some (.int .u64 (a : Int)) ∧ wx.cell? ⟨w.heap.size, 3, none⟩ = some (.int .i64 n)) (first | exact HS9.out | exact HS1.out | exact HSz.out | go_keep) (first | (go_at_call 22; refine (HC2.out _ HA0.out).mono ?_; rintro e x1 ⟨rfl, HAx, HBx⟩; have HOx := Lib.hid (HO0.out.bt HBx.out); have HSx := Lib.hid (HS0.out.bt HBx.out); have HBy := Lib.hid (show Bt wc x1 from HBx.out); have HS1 := Lib.hid (show x1.cell? ⟨g, 1, none⟩ = some (.pointer (some ⟨v, 0, none⟩)) ∧ x1.cell? ⟨w.heap.size, 2, none⟩ = some (.int .u64 (a : Int)) ∧ x1.cell? ⟨w.heap.size, 3, none⟩ = some (.int .i64 n) from ⟨HSx.out.cells.2, HOx.out.cells.2.2.1, HOx.out.cells.2.2.2.1⟩); have hgx := HSx.out.lt; have hox := HOx.out.lt; obtain ⟨y0, y2, y3⟩ := HS1.out) | (go_at_call 22; refine (HC2.out _ HAb.out).mono ?_; rintro e x1 ⟨rfl, HAx, HBx⟩; have HOx := Lib.hid (HOb.out.bt HBx.out); have HSx := Lib.hid (HSb.out.bt HBx.out); have HFx := Lib.hid (HFb.out.bt HBx.out); have HBy := Lib.hid (((Bt.below ((Below.refl _ wc).alloc (Nat.le_refl _) _)).trans HBx.out : Bt wc x1)); obtain ⟨f0, f1, f2, f3⟩ := HFx.out.cells; have hfx := HFx.out.lt; have HS9 := Lib.hid (show ((x1.setCell ⟨wc.heap.size, 0, none⟩ (.int .i64 why)).setCell ⟨wc.heap.size, 1, none⟩ (.int .u64 xx)).cell? ⟨g, 1, none⟩ = some (.pointer (some ⟨v, 0, none⟩)) ∧ ((x1.setCell ⟨wc.heap.size, 0, none⟩ (.int .i64 why)).setCell ⟨wc.heap.size, 1, none⟩ (.int .u64 xx)).cell? ⟨w.heap.size, 2, none⟩ = some (.int .u64 (a : Int)) ∧ ((x1.setCell ⟨wc.heap.size, 0, none⟩ (.int .i64 why)).setCell ⟨wc.heap.size, 1, none⟩ (.int .u64 xx)).cell? ⟨w.heap.size, 3, none⟩ = some (.int .i64 n) from ⟨(HSx.out.keep1 (Keeps.two x1 wc.heap.size (.int .i64 why) (.int .u64 xx)) hne1).cells.2, (HOx.out.keep1 (Keeps.two x1 wc.heap.size (.int .i64 why) (.int .u64 xx)) hne2).cells.2.2.1, (HOx.out.keep1 (Keeps.two x1 wc.heap.size (.int .i64 why) (.int .u64 xx)) hne2).cells.2.2.2.1⟩); have HS1 := Lib.hid (show x1.cell? ⟨g, 1, none⟩ = some (.pointer (some ⟨v, 0, none⟩)) ∧ x1.cell? ⟨w.heap.size, 2, none⟩ = some (.int .u64 (a : Int)) ∧ x1.cell? ⟨w.heap.size, 3, none⟩ = some (.int .i64 n) from ⟨HSx.out.cells.2, HOx.out.cells.2.2.1, HOx.out.cells.2.2.2.1⟩); have hgx := HSx.out.lt; have hox := HOx.out.lt; obtain ⟨y0, y2, y3⟩ := HS1.out))
        all_goals
          go_wp2_with fail
          go_meet
          first
            | exact ⟨_, rfl, rfl, BoxG.new x1 why xx, (HAx.out.low ((Below.refl _ _).alloc (Nat.le_refl _) _)).1, HOx.out.below ((Below.refl _ _).alloc (Nat.le_refl _) _), HSx.out.below ((Below.refl _ _).alloc (Nat.le_refl _) _), HBy.out.1, HBy.out.trans (Bt.below ((Below.refl _ _).alloc (Nat.le_refl _) _))⟩
            | exact ⟨_, rfl, rfl, HFx.out.set why xx, HAx.out.box HFx.out (.inr (.inl rfl)) (Nat.le_of_lt hRl) (Keeps.two x1 wc.heap.size _ _), HOx.out.keep1 (Keeps.two x1 wc.heap.size _ _) hne2, HSx.out.keep1 (Keeps.two x1 wc.heap.size _ _) hne1, Nat.le_refl _, HBy.out.trans_box (Keeps.two x1 wc.heap.size _ _)⟩
      case rest =>
        obtain ⟨b2, rfl, rfl, HR⟩ := hcut
        obtain ⟨hg4, ha4, _, _, hb4, ht4⟩ := HR.out
        have hf4 : BoxF _ b1 why xx := HF3.out.bt ht4
        have HA4 := Lib.hid ha4
        obtain ⟨f0, f1, _, _⟩ := hf4.cells
        obtain ⟨e0, e1, _, _⟩ := hg4.cells
        clear HR ha4 hg4 HF3 HA0 HO0 HS0 HAb HOb HSb HFb HSz s0 s1 o2 o3 HC2 ht4
        go_wp2_with fail
        refine (HSm.out _ _ _).mono ?_
        rintro e w6 ⟨rfl, hb6⟩
        have HA6 := Lib.hid (HA4.out.low hb6).1
        clear hb6 HA4 f0 f1 e0 e1
        go_wp2_with fail
        go_ret
        exact ⟨rfl, gs, ps.set i q, HA6, by rw [HN.out]; exact h0, by rw [HN.out]; exact h8, le_set HPs.out (by omega) HQ.out⟩
end Go.Proofs.YtddgoncbdlhhhaaGreat
/- BusPlays: a step: Store, Fill (written by parts/gen_bpst.py). Own work. -/
namespace Go.Proofs.YtddgoncbdlhhhaaGreat
open Go.RowKit Go.Maps Go.Proofs.YtddgoncbdlhhhaaGreat.Sp Wk
set_option linter.unusedVariables false
set_option maxRecDepth 100000 in
set_option maxHeartbeats 8000000 in
theorem step_store {w0 w : World} {bb R : Nat} {vr vd : Value} {rs ds : List Sp} {gs : List (Nat × Nat × Nat)} {ps : List Ps} {k : Nat} {who n : Int} {a val : Nat} {pa : Option Addr} {pn pc : Nat} (hB : BusOk w0 vr vd rs ds) (h : Al w0 w bb R vr vd rs ds gs ps ps [] []) (h0 : 0 < gs.length) (h8 : gs.length ≤ 8) (hps : ∀ p ∈ ps, Ps.le p k) (hk : k ≤ 4000000000000000000) (ha : a ≤ 18446744073709551615) (hn : n ≤ 9223372036854775807) (hval : val ≤ 18446744073709551615) :
    Calls Tryz.prog 7 #[.pointer (some ⟨R, 0, none⟩), .agg #[.int .i64 2, .int .i64 who, .int .u64 (a : Int), .int .i64 n, .int .u64 (val : Int), .slice pa pn pc]] w (StP w0 bb R vr vd rs ds (k + 2)) := by
  obtain ⟨W1, hW1⟩ : ∃ W1, w.alloc (Obj.cells #[.int .i64 2, .int .i64 who, .int .u64 (a : Int), .int .i64 n, .int .u64 (val : Int), .slice pa pn pc] 29) = W1 := ⟨_, rfl⟩
  have hb1 : Below w.heap.size w W1 := hW1 ▸ (Below.refl _ _).alloc (Nat.le_refl _) _
  have HO1 : Hid (OpAt W1 w.heap.size 2 who a n val pa pn pc) := hW1 ▸ OpAt.new w 2 who a n val pa pn pc
  have HA1 : Hid (Al w0 W1 bb R vr vd rs ds gs ps ps [] []) := (h.low hb1).1
  have HL := Lib.hid h.lens.1
  have HPs : Hid (∀ p ∈ ps, Ps.le p k) := hps
  obtain ⟨gb, off, cap, c0, hcap, hrow⟩ := HA1.out.row h0
  obtain ⟨N, hN⟩ : ∃ N, gs.length = N := ⟨_, rfl⟩
  have HN := Lib.hid hN
  rw [hN] at h0 h8 hcap c0
  have HRow := Lib.hid hrow
  have HWi : Hid (∀ W, Calls Tryz.prog 17 #[.int .i64 who, .int .i64 0, .int .i64 ((N : Int) - 1)] W fun e w' => ∃ r : Nat, e = .returned (.int .i64 (r : Int)) ∧ r < N ∧ w' = W) := within_n h0 h8
  obtain ⟨o0, o1, o2, o3, o4, o5⟩ := HO1.out.cells
  have hw1 : IntKind.i64.wrap ((N : Int) - 1) = (N : Int) - 1 := by rw [IntKind.wrap_i64]; omega
  have HJ : Hid (∀ r, r < N → ∃ g m v p, gs[r]? = some (g, m, v) ∧ ps[r]? = some p ∧ W1.cell? ⟨gb, off + r, none⟩ = some (.pointer (some ⟨g, 0, none⟩)) ∧ Ps.le p k) := fun r hr => by
    have hl : r < gs.length := by rw [HN.out]; exact hr
    obtain ⟨g, m, v⟩ : Nat × Nat × Nat := gs[r]
    have hp : r < ps.length := by rw [HL.out]; exact hl
    exact ⟨gs[r].1, gs[r].2.1, gs[r].2.2, ps[r], List.getElem?_eq_getElem hl, List.getElem?_eq_getElem hp, HRow.out r _ _ _ (List.getElem?_eq_getElem hl), HPs.out _ (List.getElem_mem hp)⟩
  clear h hps hb1 hrow HRow hN
  go_enter Tryz.func7, Tryz.ntmps7
  go_upto_region 1 with fail
  try rw [hW1]
  clear hW1
  go_cut [5] (fun y wx => ∃ (i g m v : Nat) (p : Ps), y = .pointer (some ⟨g, 0, none⟩) ∧ gs[i]? = some (g, m, v) ∧ ps[i]? = some p ∧ Ps.le p k ∧ wx = W1.drew)
  case first =>
    go_region_held3 (fun w' => w' = W1.drew) (rfl) (first | (go_at_call 17; refine (HWi.out _).mono ?_; rintro e w' ⟨r, rfl, hr, hw⟩; subst hw; obtain ⟨g, m, v, p, hgr, hpr, hcr, hle⟩ := HJ.out r hr; have hri : (r : Int) < (N : Int) := by omega))
    all_goals
      go_wp2_with fail
      go_meet
      exact ⟨r, g, m, v, p, rfl, hgr, hpr, hle, rfl⟩
  case rest =>
    obtain ⟨i, g, m, v, p, rfl, hgi, hpi, hpk, hw⟩ := hcut
    subst hw
    have HDA : Hid (Al w0 W1.drew bb R vr vd rs ds gs ps ps [] []) := (HA1.out.low ((Below.refl _ _).drew)).1
    have HDO : Hid (OpAt W1.drew w.heap.size 2 who a n val pa pn pc) := HO1.out
    have HDS : Hid (SeatAt W1.drew g m v) := HDA.out.seat hgi
    have HGi := Lib.hid hgi
    have HPi := Lib.hid hpi
    generalize W1.drew = W2 at *
    obtain ⟨o0, o1, o2, o3, o4, o5⟩ := HDO.out.cells
    have HPk : Hid (Ps.le p k) := hpk
    clear HJ HWi HA1 HO1 c0 hgi hpi hpk
    have HQ : Hid ((stP (rs ++ ds) p a n val).le (k + 2)) := (stP_le (LL := rs ++ ds) (a := a) (n := n) HPk.out).mono (by omega)
    have HC1 : Hid (∀ W, Al w0 W bb R vr vd rs ds gs ps ps [] [] → Calls Tryz.prog 23 #[.pointer (some ⟨m, 0, none⟩), .int .u64 (a : Int), .int .i64 n, .int .u64 (val : Int)] W fun e w' => e = .returned (.agg #[.int .i64 (wyA (rs ++ ds) a n), .int .u64 (adA (rs ++ ds) a n)]) ∧ Hid (Al w0 w' bb R vr vd rs ds gs (ps.set i (stP (rs ++ ds) p a n val)) ps [] []) ∧ Hid (Bt W w')) := fun W hW => c_store hW HGi.out HPi.out ha (HPk.out.mono (by omega)) hval
    have HC2 : Hid (∀ W, Al w0 W bb R vr vd rs ds gs (ps.set i (stP (rs ++ ds) p a n val)) ps [] [] → Calls Tryz.prog 24 #[.pointer (some ⟨v, 0, none⟩), .int .u64 (a : Int), .int .i64 n, .int .u64 (val : Int)] W fun e w' => e = .returned (.agg #[.int .i64 (wyA (rs ++ ds) a n), .int .u64 (adA (rs ++ ds) a n)]) ∧ Hid (Al w0 w' bb R vr vd rs ds gs (ps.set i (stP (rs ++ ds) p a n val)) (ps.set i (stP (rs ++ ds) p a n val)) [] []) ∧ Hid (Bt W w')) := fun W hW => d_store hB hW HGi.out HPi.out ha (HPk.out.mono (by omega))
    have HSm : Hid (∀ a b W, Calls Tryz.prog 20 #[.agg #[.int .i64 a, .int .u64 b], .agg #[.int .i64 a, .int .u64 b]] W fun e w' => e = .returned (.bool true) ∧ Below W.heap.size W w') := same_one
    obtain ⟨why, hwhy⟩ : ∃ why : Int, why = wyA (rs ++ ds) a n := ⟨_, rfl⟩
    obtain ⟨xx, hxx⟩ : ∃ xx : Int, xx = adA (rs ++ ds) a n := ⟨_, rfl⟩
    obtain ⟨q, hq⟩ : ∃ q : Ps, q = stP (rs ++ ds) p a n val := ⟨_, rfl⟩
    rw [← hwhy, ← hxx, ← hq] at HC1 HC2
    rw [← hq] at HQ
    clear hwhy hxx hq
    go_wp2_with fail
    clear o0 o1 o2 o3 o4 o5
    have HA0 := Lib.hid (HDA.out.low ((Below.refl _ W2).drew)).1
    have HO0 : Hid (OpAt W2.drew w.heap.size 2 who a n val pa pn pc) := HDO.out
    have HT0 : Hid (SeatAt W2.drew g m v) := HDS.out
    obtain ⟨s0, s1⟩ := HDS.out.cells
    obtain ⟨_, _, o2, o3, o4, _⟩ := HDO.out.cells
    have HSz := Lib.hid (show W2.drew.cell? ⟨g, 0, none⟩ = some (.pointer (some ⟨m, 0, none⟩)) ∧ W2.drew.cell? ⟨g, 1, none⟩ = some (.pointer (some ⟨v, 0, none⟩)) ∧ W2.drew.cell? ⟨w.heap.size, 2, none⟩ = some (.int .u64 (a : Int)) ∧ W2.drew.cell? ⟨w.heap.size, 3, none⟩ = some (.int .i64 n) ∧ W2.drew.cell? ⟨w.heap.size, 4, none⟩ = some (.int .u64 (val : Int)) from ⟨s0, s1, o2, o3, o4⟩)
    go_region_held3 (fun wx => wx.cell? ⟨g, 0, none⟩ = some (.pointer (some ⟨m, 0, none⟩)) ∧ wx.cell? ⟨g, 1, none⟩ = some (.pointer (some ⟨v, 0, none⟩)) ∧ wx.cell? ⟨w.heap.size, 2, none⟩ = some (.int .u64 (a : Int)) ∧ wx.cell? ⟨w.heap.size, 3, none⟩ = some (.int .i64 n) ∧ wx.cell? ⟨w.heap.size, 4, none⟩ = some (.int .u64 (val : Int))) (first | exact HSx3.out | exact HSx2.out | exact HSx1.out | exact HSz.out | go_keep)
      (first
        | (go_at_call 23; refine (HC1.out _ HA0.out).mono ?_; rintro e x1 ⟨rfl, HA1, HB1⟩; have HOxx1 := Lib.hid (HO0.out.bt HB1.out); have HSxx1 := Lib.hid (HT0.out.bt HB1.out); have HSx1 := Lib.hid (show x1.cell? ⟨g, 0, none⟩ = some (.pointer (some ⟨m, 0, none⟩)) ∧ x1.cell? ⟨g, 1, none⟩ = some (.pointer (some ⟨v, 0, none⟩)) ∧ x1.cell? ⟨w.heap.size, 2, none⟩ = some (.int .u64 (a : Int)) ∧ x1.cell? ⟨w.heap.size, 3, none⟩ = some (.int .i64 n) ∧ x1.cell? ⟨w.heap.size, 4, none⟩ = some (.int .u64 (val : Int)) from ⟨HSxx1.out.cells.1, HSxx1.out.cells.2, HOxx1.out.cells.2.2.1, HOxx1.out.cells.2.2.2.1, HOxx1.out.cells.2.2.2.2.1⟩); obtain ⟨_, _, _, _, _⟩ := HSx1.out)
        | (go_at_call 24; refine (HC2.out _ HA1.out).mono ?_; rintro e x2 ⟨rfl, HA2, HB2⟩; have HOxx2 := Lib.hid (HOxx1.out.bt HB2.out); have HSxx2 := Lib.hid (HSxx1.out.bt HB2.out); have HSx2 := Lib.hid (show x2.cell? ⟨g, 0, none⟩ = some (.pointer (some ⟨m, 0, none⟩)) ∧ x2.cell? ⟨g, 1, none⟩ = some (.pointer (some ⟨v, 0, none⟩)) ∧ x2.cell? ⟨w.heap.size, 2, none⟩ = some (.int .u64 (a : Int)) ∧ x2.cell? ⟨w.heap.size, 3, none⟩ = some (.int .i64 n) ∧ x2.cell? ⟨w.heap.size, 4, none⟩ = some (.int .u64 (val : Int)) from ⟨HSxx2.out.cells.1, HSxx2.out.cells.2, HOxx2.out.cells.2.2.1, HOxx2.out.cells.2.2.2.1, HOxx2.out.cells.2.2.2.2.1⟩); obtain ⟨_, _, _, _, _⟩ := HSx2.out)
        | (go_at_call 20; refine (HSm.out _ _ _).mono ?_; rintro e x3 ⟨rfl, hb3⟩; have HA3 := Lib.hid (HA2.out.low hb3).1; have HOxx3 := Lib.hid (HOxx2.out.below hb3); have HSxx3 := Lib.hid (HSxx2.out.below hb3); have HSx3 := Lib.hid (show x3.cell? ⟨g, 0, none⟩ = some (.pointer (some ⟨m, 0, none⟩)) ∧ x3.cell? ⟨g, 1, none⟩ = some (.pointer (some ⟨v, 0, none⟩)) ∧ x3.cell? ⟨w.heap.size, 2, none⟩ = some (.int .u64 (a : Int)) ∧ x3.cell? ⟨w.heap.size, 3, none⟩ = some (.int .i64 n) ∧ x3.cell? ⟨w.heap.size, 4, none⟩ = some (.int .u64 (val : Int)) from ⟨HSxx3.out.cells.1, HSxx3.out.cells.2, HOxx3.out.cells.2.2.1, HOxx3.out.cells.2.2.2.1, HOxx3.out.cells.2.2.2.2.1⟩); obtain ⟨_, _, _, _, _⟩ := HSx3.out))
    all_goals
      go_wp2_with fail
      go_ret
      exact ⟨rfl, gs, ps.set i q, HA3, by rw [HN.out]; exact h0, by rw [HN.out]; exact h8, le_set HPs.out (by omega) HQ.out⟩
set_option maxRecDepth 100000 in
set_option maxHeartbeats 8000000 in
theorem step_fill {w0 w : World} {bb R : Nat} {vr vd : Value} {rs ds : List Sp} {gs : List (Nat × Nat × Nat)} {ps : List Ps} {k : Nat} {who n : Int} {a val : Nat} {pa : Option Addr} {pn pc : Nat} (hB : BusOk w0 vr vd rs ds) (h : Al w0 w bb R vr vd rs ds gs ps ps [] []) (h0 : 0 < gs.length) (h8 : gs.length ≤ 8) (hps : ∀ p ∈ ps, Ps.le p k) (hk : k ≤ 4000000000000000000) (ha : a ≤ 18446744073709551615) (hn : n ≤ 9223372036854775807) (hval : val ≤ 18446744073709551615) :
    Calls Tryz.prog 7 #[.pointer (some ⟨R, 0, none⟩), .agg #[.int .i64 6, .int .i64 who, .int .u64 (a : Int), .int .i64 n, .int .u64 (val : Int), .slice pa pn pc]] w (StP w0 bb R vr vd rs ds (k + 2)) := by
  obtain ⟨W1, hW1⟩ : ∃ W1, w.alloc (Obj.cells #[.int .i64 6, .int .i64 who, .int .u64 (a : Int), .int .i64 n, .int .u64 (val : Int), .slice pa pn pc] 29) = W1 := ⟨_, rfl⟩
  have hb1 : Below w.heap.size w W1 := hW1 ▸ (Below.refl _ _).alloc (Nat.le_refl _) _
  have HO1 : Hid (OpAt W1 w.heap.size 6 who a n val pa pn pc) := hW1 ▸ OpAt.new w 6 who a n val pa pn pc
  have HA1 : Hid (Al w0 W1 bb R vr vd rs ds gs ps ps [] []) := (h.low hb1).1
  have HL := Lib.hid h.lens.1
  have HPs : Hid (∀ p ∈ ps, Ps.le p k) := hps
  obtain ⟨gb, off, cap, c0, hcap, hrow⟩ := HA1.out.row h0
  obtain ⟨N, hN⟩ : ∃ N, gs.length = N := ⟨_, rfl⟩
  have HN := Lib.hid hN
  rw [hN] at h0 h8 hcap c0
  have HRow := Lib.hid hrow
  have HWi : Hid (∀ W, Calls Tryz.prog 17 #[.int .i64 who, .int .i64 0, .int .i64 ((N : Int) - 1)] W fun e w' => ∃ r : Nat, e = .returned (.int .i64 (r : Int)) ∧ r < N ∧ w' = W) := within_n h0 h8
  obtain ⟨o0, o1, o2, o3, o4, o5⟩ := HO1.out.cells
  have hw1 : IntKind.i64.wrap ((N : Int) - 1) = (N : Int) - 1 := by rw [IntKind.wrap_i64]; omega
  have HJ : Hid (∀ r, r < N → ∃ g m v p, gs[r]? = some (g, m, v) ∧ ps[r]? = some p ∧ W1.cell? ⟨gb, off + r, none⟩ = some (.pointer (some ⟨g, 0, none⟩)) ∧ Ps.le p k) := fun r hr => by
    have hl : r < gs.length := by rw [HN.out]; exact hr
    obtain ⟨g, m, v⟩ : Nat × Nat × Nat := gs[r]
    have hp : r < ps.length := by rw [HL.out]; exact hl
    exact ⟨gs[r].1, gs[r].2.1, gs[r].2.2, ps[r], List.getElem?_eq_getElem hl, List.getElem?_eq_getElem hp, HRow.out r _ _ _ (List.getElem?_eq_getElem hl), HPs.out _ (List.getElem_mem hp)⟩
  clear h hps hb1 hrow HRow hN
  go_enter Tryz.func7, Tryz.ntmps7
  go_upto_region 1 with fail
  try rw [hW1]
  clear hW1
  go_cut [5] (fun y wx => ∃ (i g m v : Nat) (p : Ps), y = .pointer (some ⟨g, 0, none⟩) ∧ gs[i]? = some (g, m, v) ∧ ps[i]? = some p ∧ Ps.le p k ∧ wx = W1.drew)
  case first =>
    go_region_held3 (fun w' => w' = W1.drew) (rfl) (first | (go_at_call 17; refine (HWi.out _).mono ?_; rintro e w' ⟨r, rfl, hr, hw⟩; subst hw; obtain ⟨g, m, v, p, hgr, hpr, hcr, hle⟩ := HJ.out r hr; have hri : (r : Int) < (N : Int) := by omega))
    all_goals
      go_wp2_with fail
      go_meet
      exact ⟨r, g, m, v, p, rfl, hgr, hpr, hle, rfl⟩
  case rest =>
    obtain ⟨i, g, m, v, p, rfl, hgi, hpi, hpk, hw⟩ := hcut
    subst hw
    have HDA : Hid (Al w0 W1.drew bb R vr vd rs ds gs ps ps [] []) := (HA1.out.low ((Below.refl _ _).drew)).1
    have HDO : Hid (OpAt W1.drew w.heap.size 6 who a n val pa pn pc) := HO1.out
    have HDS : Hid (SeatAt W1.drew g m v) := HDA.out.seat hgi
    have HGi := Lib.hid hgi
    have HPi := Lib.hid hpi
    generalize W1.drew = W2 at *
    obtain ⟨o0, o1, o2, o3, o4, o5⟩ := HDO.out.cells
    have HPk : Hid (Ps.le p k) := hpk
    clear HJ HWi HA1 HO1 c0 hgi hpi hpk
    have HQ : Hid ((flP (rs ++ ds) p a n (List.replicate n.toNat (val % 256))).le (k + 2)) := (flP_le (LL := rs ++ ds) (a := a) (n := n) HPk.out).mono (by omega)
    have HC1 : Hid (∀ W, Al w0 W bb R vr vd rs ds gs ps ps [] [] → Calls Tryz.prog 27 #[.pointer (some ⟨m, 0, none⟩), .int .u64 (a : Int), .int .i64 n, .int .u8 ((val % 256 : Nat) : Int)] W fun e w' => e = .returned (.agg #[.int .i64 (wyC (rs ++ ds) a n), .int .u64 (adC (rs ++ ds) a n)]) ∧ Hid (Al w0 w' bb R vr vd rs ds gs (ps.set i (flP (rs ++ ds) p a n (List.replicate n.toNat (val % 256)))) ps [] []) ∧ Hid (Bt W w')) := fun W hW => c_fill hW HGi.out HPi.out ha (HPk.out.mono (by omega)) hn (Nat.mod_lt _ (by omega))
    have HC2 : Hid (∀ W, Al w0 W bb R vr vd rs ds gs (ps.set i (flP (rs ++ ds) p a n (List.replicate n.toNat (val % 256)))) ps [] [] → Calls Tryz.prog 28 #[.pointer (some ⟨v, 0, none⟩), .int .u64 (a : Int), .int .i64 n, .int .u8 ((val % 256 : Nat) : Int)] W fun e w' => e = .returned (.agg #[.int .i64 (wyC (rs ++ ds) a n), .int .u64 (adC (rs ++ ds) a n)]) ∧ Hid (Al w0 w' bb R vr vd rs ds gs (ps.set i (flP (rs ++ ds) p a n (List.replicate n.toNat (val % 256)))) (ps.set i (flP (rs ++ ds) p a n (List.replicate n.toNat (val % 256)))) [] []) ∧ Hid (Bt W w')) := fun W hW => d_fill hB hW HGi.out HPi.out ha (HPk.out.mono (by omega)) hn (Nat.mod_lt _ (by omega))
    have HSm : Hid (∀ a b W, Calls Tryz.prog 20 #[.agg #[.int .i64 a, .int .u64 b], .agg #[.int .i64 a, .int .u64 b]] W fun e w' => e = .returned (.bool true) ∧ Below W.heap.size W w') := same_one
    obtain ⟨why, hwhy⟩ : ∃ why : Int, why = wyC (rs ++ ds) a n := ⟨_, rfl⟩
    obtain ⟨xx, hxx⟩ : ∃ xx : Int, xx = adC (rs ++ ds) a n := ⟨_, rfl⟩
    obtain ⟨q, hq⟩ : ∃ q : Ps, q = flP (rs ++ ds) p a n (List.replicate n.toNat (val % 256)) := ⟨_, rfl⟩
    rw [← hwhy, ← hxx, ← hq] at HC1 HC2
    rw [← hq] at HQ
    clear hwhy hxx hq
    go_wp2_with fail
    clear o0 o1 o2 o3 o4 o5
    have HA0 := Lib.hid (HDA.out.low ((Below.refl _ W2).drew)).1
    have HO0 : Hid (OpAt W2.drew w.heap.size 6 who a n val pa pn pc) := HDO.out
    have HT0 : Hid (SeatAt W2.drew g m v) := HDS.out
    obtain ⟨s0, s1⟩ := HDS.out.cells
    obtain ⟨_, _, o2, o3, o4, _⟩ := HDO.out.cells
    have HSz := Lib.hid (show W2.drew.cell? ⟨g, 0, none⟩ = some (.pointer (some ⟨m, 0, none⟩)) ∧ W2.drew.cell? ⟨g, 1, none⟩ = some (.pointer (some ⟨v, 0, none⟩)) ∧ W2.drew.cell? ⟨w.heap.size, 2, none⟩ = some (.int .u64 (a : Int)) ∧ W2.drew.cell? ⟨w.heap.size, 3, none⟩ = some (.int .i64 n) ∧ W2.drew.cell? ⟨w.heap.size, 4, none⟩ = some (.int .u64 (val : Int)) from ⟨s0, s1, o2, o3, o4⟩)
    have hcv : IntKind.u8.wrap (val : Int) = ((val % 256 : Nat) : Int) := by rw [IntKind.wrap_u8]; omega
    go_region_held3 (fun wx => wx.cell? ⟨g, 0, none⟩ = some (.pointer (some ⟨m, 0, none⟩)) ∧ wx.cell? ⟨g, 1, none⟩ = some (.pointer (some ⟨v, 0, none⟩)) ∧ wx.cell? ⟨w.heap.size, 2, none⟩ = some (.int .u64 (a : Int)) ∧ wx.cell? ⟨w.heap.size, 3, none⟩ = some (.int .i64 n) ∧ wx.cell? ⟨w.heap.size, 4, none⟩ = some (.int .u64 (val : Int))) (first | exact HSx3.out | exact HSx2.out | exact HSx1.out | exact HSz.out | go_keep)
      (first
        | (go_at_call 27; refine (HC1.out _ HA0.out).mono ?_; rintro e x1 ⟨rfl, HA1, HB1⟩; have HOxx1 := Lib.hid (HO0.out.bt HB1.out); have HSxx1 := Lib.hid (HT0.out.bt HB1.out); have HSx1 := Lib.hid (show x1.cell? ⟨g, 0, none⟩ = some (.pointer (some ⟨m, 0, none⟩)) ∧ x1.cell? ⟨g, 1, none⟩ = some (.pointer (some ⟨v, 0, none⟩)) ∧ x1.cell? ⟨w.heap.size, 2, none⟩ = some (.int .u64 (a : Int)) ∧ x1.cell? ⟨w.heap.size, 3, none⟩ = some (.int .i64 n) ∧ x1.cell? ⟨w.heap.size, 4, none⟩ = some (.int .u64 (val : Int)) from ⟨HSxx1.out.cells.1, HSxx1.out.cells.2, HOxx1.out.cells.2.2.1, HOxx1.out.cells.2.2.2.1, HOxx1.out.cells.2.2.2.2.1⟩); obtain ⟨_, _, _, _, _⟩ := HSx1.out)
        | (go_at_call 28; refine (HC2.out _ HA1.out).mono ?_; rintro e x2 ⟨rfl, HA2, HB2⟩; have HOxx2 := Lib.hid (HOxx1.out.bt HB2.out); have HSxx2 := Lib.hid (HSxx1.out.bt HB2.out); have HSx2 := Lib.hid (show x2.cell? ⟨g, 0, none⟩ = some (.pointer (some ⟨m, 0, none⟩)) ∧ x2.cell? ⟨g, 1, none⟩ = some (.pointer (some ⟨v, 0, none⟩)) ∧ x2.cell? ⟨w.heap.size, 2, none⟩ = some (.int .u64 (a : Int)) ∧ x2.cell? ⟨w.heap.size, 3, none⟩ = some (.int .i64 n) ∧ x2.cell? ⟨w.heap.size, 4, none⟩ = some (.int .u64 (val : Int)) from ⟨HSxx2.out.cells.1, HSxx2.out.cells.2, HOxx2.out.cells.2.2.1, HOxx2.out.cells.2.2.2.1, HOxx2.out.cells.2.2.2.2.1⟩); obtain ⟨_, _, _, _, _⟩ := HSx2.out)
        | (go_at_call 20; refine (HSm.out _ _ _).mono ?_; rintro e x3 ⟨rfl, hb3⟩; have HA3 := Lib.hid (HA2.out.low hb3).1; have HOxx3 := Lib.hid (HOxx2.out.below hb3); have HSxx3 := Lib.hid (HSxx2.out.below hb3); have HSx3 := Lib.hid (show x3.cell? ⟨g, 0, none⟩ = some (.pointer (some ⟨m, 0, none⟩)) ∧ x3.cell? ⟨g, 1, none⟩ = some (.pointer (some ⟨v, 0, none⟩)) ∧ x3.cell? ⟨w.heap.size, 2, none⟩ = some (.int .u64 (a : Int)) ∧ x3.cell? ⟨w.heap.size, 3, none⟩ = some (.int .i64 n) ∧ x3.cell? ⟨w.heap.size, 4, none⟩ = some (.int .u64 (val : Int)) from ⟨HSxx3.out.cells.1, HSxx3.out.cells.2, HOxx3.out.cells.2.2.1, HOxx3.out.cells.2.2.2.1, HOxx3.out.cells.2.2.2.2.1⟩); obtain ⟨_, _, _, _, _⟩ := HSx3.out))
    all_goals
      go_wp2_with fail
      go_ret
      exact ⟨rfl, gs, ps.set i q, HA3, by rw [HN.out]; exact h0, by rw [HN.out]; exact h8, le_set HPs.out (by omega) HQ.out⟩
end Go.Proofs.YtddgoncbdlhhhaaGreat
