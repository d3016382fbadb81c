import Derived.Test.YtddgoncbdlhhhaaGreatR35
import Derived.Test.YtddgoncbdlhhhaaGreatR42
/- BusPlays: a step: none (written by parts/gen_bpst.py). Own work. -/
namespace Go.Proofs.YtddgoncbdlhhhaaGreat
open Go.RowKit Go.Maps Go.Proofs.YtddgoncbdlhhhaaGreat.Sp Wk
set_option linter.unusedVariables false
theorem noB {n : Int} {x : Int} (h : n ≠ x) : (n == x) = false := by simpa using h
set_option maxRecDepth 100000 in
set_option maxHeartbeats 8000000 in
theorem step_none {w0 w : World} {bb R : Nat} {vr vd : Value} {rs ds : List Sp} {gs : List (Nat × Nat × Nat)} {ps : List Ps} {k : Nat} {kd who n : Int} {a val : Nat} {pa : Option Addr} {pn pc : Nat} (hB : BusOk w0 vr vd rs ds) (h : Al w0 w bb R vr vd rs ds gs ps ps [] []) (h0 : 0 < gs.length) (h8 : gs.length ≤ 8) (hps : ∀ p ∈ ps, Ps.le p k) (hk : k ≤ 4000000000000000000) (ha : a ≤ 18446744073709551615) (hn : n ≤ 9223372036854775807) (hval : val ≤ 18446744073709551615) (hkd : ∀ j : Int, 1 ≤ j → j ≤ 11 → kd ≠ j) :
    Calls Tryz.prog 7 #[.pointer (some ⟨R, 0, none⟩), .agg #[.int .i64 kd, .int .i64 who, .int .u64 (a : Int), .int .i64 n, .int .u64 (val : Int), .slice pa pn pc]] w (StP w0 bb R vr vd rs ds (k + 2)) := by
  obtain ⟨W1, hW1⟩ : ∃ W1, w.alloc (Obj.cells #[.int .i64 kd, .int .i64 who, .int .u64 (a : Int), .int .i64 n, .int .u64 (val : Int), .slice pa pn pc] 29) = W1 := ⟨_, rfl⟩
  have hb1 : Below w.heap.size w W1 := hW1 ▸ (Below.refl _ _).alloc (Nat.le_refl _) _
  have HO1 : Hid (OpAt W1 w.heap.size kd who a n val pa pn pc) := hW1 ▸ OpAt.new w kd who a n val pa pn pc
  have HA1 : Hid (Al w0 W1 bb R vr vd rs ds gs ps ps [] []) := (h.low hb1).1
  have HL := Lib.hid h.lens.1
  have HPs : Hid (∀ p ∈ ps, Ps.le p k) := hps
  obtain ⟨gb, off, cap, c0, hcap, hrow⟩ := HA1.out.row h0
  obtain ⟨N, hN⟩ : ∃ N, gs.length = N := ⟨_, rfl⟩
  have HN := Lib.hid hN
  rw [hN] at h0 h8 hcap c0
  have HRow := Lib.hid hrow
  have HWi : Hid (∀ W, Calls Tryz.prog 17 #[.int .i64 who, .int .i64 0, .int .i64 ((N : Int) - 1)] W fun e w' => ∃ r : Nat, e = .returned (.int .i64 (r : Int)) ∧ r < N ∧ w' = W) := within_n h0 h8
  obtain ⟨o0, o1, o2, o3, o4, o5⟩ := HO1.out.cells
  have hw1 : IntKind.i64.wrap ((N : Int) - 1) = (N : Int) - 1 := by rw [IntKind.wrap_i64]; omega
  have HJ : Hid (∀ r, r < N → ∃ g m v p, gs[r]? = some (g, m, v) ∧ ps[r]? = some p ∧ W1.cell? ⟨gb, off + r, none⟩ = some (.pointer (some ⟨g, 0, none⟩)) ∧ Ps.le p k) := fun r hr => by
    have hl : r < gs.length := by rw [HN.out]; exact hr
    obtain ⟨g, m, v⟩ : Nat × Nat × Nat := gs[r]
    have hp : r < ps.length := by rw [HL.out]; exact hl
    exact ⟨gs[r].1, gs[r].2.1, gs[r].2.2, ps[r], List.getElem?_eq_getElem hl, List.getElem?_eq_getElem hp, HRow.out r _ _ _ (List.getElem?_eq_getElem hl), HPs.out _ (List.getElem_mem hp)⟩
  clear h hps hb1 hrow HRow hN
  go_enter Tryz.func7, Tryz.ntmps7
  go_upto_region 1 with fail
  try rw [hW1]
  clear hW1
  go_cut [5] (fun y wx => ∃ (i g m v : Nat) (p : Ps), y = .pointer (some ⟨g, 0, none⟩) ∧ gs[i]? = some (g, m, v) ∧ ps[i]? = some p ∧ Ps.le p k ∧ wx = W1.drew)
  case first =>
    go_region_held3 (fun w' => w' = W1.drew) (rfl) (first | (go_at_call 17; refine (HWi.out _).mono ?_; rintro e w' ⟨r, rfl, hr, hw⟩; subst hw; obtain ⟨g, m, v, p, hgr, hpr, hcr, hle⟩ := HJ.out r hr; have hri : (r : Int) < (N : Int) := by omega))
    all_goals
      go_wp2_with fail
      go_meet
      exact ⟨r, g, m, v, p, rfl, hgr, hpr, hle, rfl⟩
  case rest =>
    obtain ⟨i, g, m, v, p, rfl, hgi, hpi, hpk, hw⟩ := hcut
    subst hw
    have HDA : Hid (Al w0 W1.drew bb R vr vd rs ds gs ps ps [] []) := (HA1.out.low ((Below.refl _ _).drew)).1
    have HDO : Hid (OpAt W1.drew w.heap.size kd who a n val pa pn pc) := HO1.out
    have HDS : Hid (SeatAt W1.drew g m v) := HDA.out.seat hgi
    have HGi := Lib.hid hgi
    have HPi := Lib.hid hpi
    generalize W1.drew = W2 at *
    obtain ⟨o0, o1, o2, o3, o4, o5⟩ := HDO.out.cells
    have HPk : Hid (Ps.le p k) := hpk
    clear HJ HWi HA1 HO1 c0 hgi hpi hpk
    have n1 := noB (hkd 1 (by omega) (by omega))
    have n2 := noB (hkd 2 (by omega) (by omega))
    have n3 := noB (hkd 3 (by omega) (by omega))
    have n4 := noB (hkd 4 (by omega) (by omega))
    have n5 := noB (hkd 5 (by omega) (by omega))
    have n6 := noB (hkd 6 (by omega) (by omega))
    have n7 := noB (hkd 7 (by omega) (by omega))
    have n8 := noB (hkd 8 (by omega) (by omega))
    have n9 := noB (hkd 9 (by omega) (by omega))
    have n10 := noB (hkd 10 (by omega) (by omega))
    have n11 := noB (hkd 11 (by omega) (by omega))
    clear hkd
    go_wp2_with fail
    go_ret
    exact ⟨rfl, gs, ps, HDA, by rw [HN.out]; exact h0, by rw [HN.out]; exact h8, fun p hp => (HPs.out p hp).mono (by omega)⟩
end Go.Proofs.YtddgoncbdlhhhaaGreat
/- BusPlays: a step: any (written by parts/gen_bpst.py). Own work. -/
namespace Go.Proofs.YtddgoncbdlhhhaaGreat
open Go.RowKit Go.Maps Go.Proofs.YtddgoncbdlhhhaaGreat.Sp Wk
set_option linter.unusedVariables false
theorem step_any {w0 w : World} {bb R : Nat} {vr vd : Value} {rs ds : List Sp} {gs : List (Nat × Nat × Nat)} {ps : List Ps} {k : Nat} {kd who n : Int} {a val : Nat} {pa : Option Addr} {pc : Nat} {zs : List Nat} (hB : BusOk w0 vr vd rs ds) (h : Al w0 w bb R vr vd rs ds gs ps ps [] []) (h0 : 0 < gs.length) (h8 : gs.length ≤ 8) (hps : ∀ p ∈ ps, Ps.le p k) (hk : k ≤ 4000000000000000000) (ha : a ≤ 18446744073709551615) (hn : n ≤ 9223372036854775807) (hval : val ≤ 18446744073709551615) (hP : Sl w0 (.slice pa zs.length pc) zs) (hzl : zs.length ≤ 2147483647) :
    Calls Tryz.prog 7 #[.pointer (some ⟨R, 0, none⟩), .agg #[.int .i64 kd, .int .i64 who, .int .u64 (a : Int), .int .i64 n, .int .u64 (val : Int), .slice pa zs.length pc]] w (StP w0 bb R vr vd rs ds (k + 2)) := by
  by_cases hkd : ∀ j : Int, 1 ≤ j → j ≤ 11 → kd ≠ j
  · exact step_none hB h h0 h8 hps hk ha hn hval hkd
  · have : 1 ≤ kd ∧ kd ≤ 11 := by
      refine ⟨?_, ?_⟩
      · apply Classical.byContradiction
        intro hq
        exact hkd (fun j h1 h2 e => by omega)
      · apply Classical.byContradiction
        intro hq
        exact hkd (fun j h1 h2 e => by omega)
    obtain rfl | rfl | rfl | rfl | rfl | rfl | rfl | rfl | rfl | rfl | rfl : kd = 1 ∨ kd = 2 ∨ kd = 3 ∨ kd = 4 ∨ kd = 5 ∨ kd = 6 ∨ kd = 7 ∨ kd = 8 ∨ kd = 9 ∨ kd = 10 ∨ kd = 11 := by omega
    · exact step_load hB h h0 h8 hps hk ha hn hval
    · exact step_store hB h h0 h8 hps hk ha hn hval
    · exact step_peek hB h h0 h8 hps hk ha hn hval
    · exact step_read hB h h0 h8 hps hk ha hn hval
    · exact step_write hB h h0 h8 hps hk ha hn hval hP hzl
    · exact step_fill hB h h0 h8 hps hk ha hn hval
    · exact step_where hB h h0 h8 hps hk ha hn hval
    · exact step_kept hB h h0 h8 hps hk ha hn hval
    · exact step_meter hB h h0 h8 hps hk ha hn hval
    · exact step_bus hB h h0 h8 hps hk ha hn hval
    · exact step_clone hB h h0 h8 hps hk ha hn hval
end Go.Proofs.YtddgoncbdlhhhaaGreat
/- BusPlays: the state with the document's machines in sight (written by parts/gen_bpv.py off BpOp, BpH, BpBx). Own work. -/
namespace Go.Proofs.YtddgoncbdlhhhaaGreat
open Go.RowKit Go.Maps Go.Proofs.YtddgoncbdlhhhaaGreat.Sp Wk
set_option linter.unusedVariables false
/-- all that there is; where the document's machines lie is in sight -/
def AlV (w0 w : World) (bb R : Nat) (vr vd : Value) (rs ds : List Sp) (gs : List (Nat × Nat × Nat)) (pb : List Ps) (vs : List VSt) (H : List (Value × List Nat)) (G : List (Value × List Sp)) : Prop :=
  ∃ col bs sv lv wv hd lr wr hd2 E F, AlI w0 w bb R vr vd rs ds col gs bs vs H G sv lv wv hd lr wr hd2 E F ∧ bs.map BSt.p = pb
section
variable {w0 w w' : World} {bb R : Nat} {vr vd : Value} {rs ds : List Sp} {gs : List (Nat × Nat × Nat)} {pb pv : List Ps} {vs : List VSt} {H : List (Value × List Nat)} {G : List (Value × List Sp)} {i g m v b : Nat} {p : Ps} {a : Nat} {n : Int} {c : Array Value} {t : TypeId}
theorem Al.toV (h : Al w0 w bb R vr vd rs ds gs pb pv H G) : ∃ vs, vs.map VSt.p = pv ∧ AlV w0 w bb R vr vd rs ds gs pb vs H G := by
  obtain ⟨col, bs, vs, sv, lv, wv, hd, lr, wr, hd2, E, F, h, e1, e2⟩ := h
  exact ⟨vs, e2, col, bs, sv, lv, wv, hd, lr, wr, hd2, E, F, h, e1⟩
theorem AlV.al (h : AlV w0 w bb R vr vd rs ds gs pb vs H G) : Al w0 w bb R vr vd rs ds gs pb (vs.map VSt.p) H G := by
  obtain ⟨col, bs, sv, lv, wv, hd, lr, wr, hd2, E, F, h, e1⟩ := h
  exact ⟨col, bs, vs, sv, lv, wv, hd, lr, wr, hd2, E, F, h, e1, rfl⟩
theorem AlV.vm (h : AlV w0 w bb R vr vd rs ds gs pb vs H G) {q : VSt} (hv : vs[i]? = some q) : RM w q.base q.v vr vd q.vp q.ps q.p.M q.p.L q.p.S q.p.X ∧ ∀ x ∈ q.ps, Og (rs ++ ds) x.1 := by
  obtain ⟨col, bs, sv, lv, wv, hd, lr, wr, hd2, E, F, h, e1⟩ := h
  exact ⟨(h.rf i q hv).rm, (h.rf i q hv).pgs⟩
theorem AlV.gv (h : AlV w0 w bb R vr vd rs ds gs pb vs H G) (hi : gs[i]? = some (g, m, v)) : ∃ q, vs[i]? = some q ∧ q.v = v := by
  obtain ⟨col, bs, sv, lv, wv, hd, lr, wr, hd2, E, F, h, e1⟩ := h
  have h1 := congrArg (·[i]?) h.lf
  simp only [List.getElem?_map, hi, Option.map_some] at h1
  cases hc : vs[i]? with
  | none => rw [hc] at h1; cases h1
  | some q =>
    rw [hc] at h1
    exact ⟨q, rfl, (Option.some.inj h1).symm⟩
theorem AlV.low {w' : World} (h : AlV w0 w bb R vr vd rs ds gs pb vs H G) (hb : Below w.heap.size w w') : AlV w0 w' bb R vr vd rs ds gs pb vs H G ∧ Bt w w' := by
  obtain ⟨col, bs, sv, lv, wv, hd, lr, wr, hd2, E, F, h, e1⟩ := h
  obtain ⟨h1, h2⟩ := h.low hb (col' := col) (fun _ _ => rfl)
  exact ⟨⟨_, bs, sv, lv, wv, hd, lr, wr, hd2, E, F, h1, e1⟩, h2⟩
theorem AlV.seat (h : AlV w0 w bb R vr vd rs ds gs pb vs H G) (hi : gs[i]? = some (g, m, v)) : w.heap[g]? = some (.cells #[.pointer (some ⟨m, 0, none⟩), .pointer (some ⟨v, 0, none⟩)] 39 (0, 0)) := by
  obtain ⟨col, bs, sv, lv, wv, hd, lr, wr, hd2, E, F, h, e1⟩ := h
  exact h.sg i g m v hi
theorem AlV.own (h : AlV w0 w bb R vr vd rs ds gs pb vs H G) {x : Value × List Nat} (hx : x ∈ H) : Own w bb x.1 x.2 ∧ ∀ z ∈ x.2, z < 256 := by
  obtain ⟨col, bs, sv, lv, wv, hd, lr, wr, hd2, E, F, h, e1⟩ := h
  exact ⟨(h.hh x hx).1, (h.hh x hx).2.1⟩
theorem AlV.box (h : AlV w0 w bb R vr vd rs ds gs pb vs H G) (hb : w.heap[b]? = some (.cells c t (0, 0))) (ht : Tb t) (hbb : R ≤ b) (k : Keeps (fun j => j = b) w w') : AlV w0 w' bb R vr vd rs ds gs pb vs H G := by
  obtain ⟨col, bs, sv, lv, wv, hd, lr, wr, hd2, E, F, h, e1⟩ := h
  exact ⟨col, bs, sv, lv, wv, hd, lr, wr, hd2, E, F, h.box hb ht (Nat.le_trans h.bbl.2 hbb) k, e1⟩
theorem AlV.R_lt (h : AlV w0 w bb R vr vd rs ds gs pb vs H G) : R < w.heap.size := by
  obtain ⟨col, bs, sv, lv, wv, hd, lr, wr, hd2, E, F, h, _⟩ := h
  exact h.R_lt
theorem c_readV (h : AlV w0 w bb R vr vd rs ds gs pb vs H G) (hi : gs[i]? = some (g, m, v)) (hp : pb[i]? = some p) (ha : a ≤ 18446744073709551615) (hk : p.le 4611686018427387904) (hn : n ≤ 9223372036854775807) : Calls Tryz.prog 33 #[.pointer (some ⟨m, 0, none⟩), .int .u64 (a : Int), .int .i64 n] w fun e w' => ∃ la ln lc, e = .returned (.tuple #[.slice la ln lc, .agg #[.int .i64 (wyC (rs ++ ds) a n), .int .u64 (adC (rs ++ ds) a n)]]) ∧ Hid (AlV w0 w' bb R vr vd rs ds gs (pb.set i (rdP (rs ++ ds) p a n)) vs ((.slice la ln lc, rdL (rs ++ ds) p a n) :: H) G) ∧ Hid (Bt w w') := by
  by_cases hneg : n < 0
  · refine (readM_neg hneg).mono ?_
    rintro e w' ⟨rfl, hb⟩
    obtain ⟨h1, h2⟩ := h.low hb
    refine ⟨none, 0, 0, ?_, ?_, h2⟩
    · simp only [wyC, adC, hneg, if_true, FaultV]
    · have e : rdP (rs ++ ds) p a n = p := by simp only [rdP, hneg, if_true]
      have e' : rdL (rs ++ ds) p a n = [] := by simp only [rdL, hneg, if_true]
      rw [e, e', set_same hp]
      obtain ⟨col, bs, sv, lv, wv, hd, lr, wr, hd2, E, F, h1, e1⟩ := h1
      exact ⟨col, bs, sv, lv, wv, hd, lr, wr, hd2, E, F, h1.hand (Own.nilB _ _) (fun _ h => by cases h) (by simp) (fun k e => by cases e), e1⟩
  · obtain ⟨k, rfl⟩ : ∃ k : Nat, n = (k : Int) := ⟨n.toNat, by omega⟩
    obtain ⟨col, bs, sv, lv, wv, hd, lr, wr, hd2, E, F, h, e1⟩ := h
    obtain ⟨b, hb, rfl, rfl⟩ := get_bs h.lb e1 hi hp
    have hB := h.bus i b hb
    refine (readM_any hB.mac ha (by omega) (by have := hk.2.2; omega)).mono ?_
    rintro e w' ⟨x, bo, sl, ho, rfl, hm', hk', hs1, hs2⟩
    have e3 : rdP (rs ++ ds) b.p a (k : Int) = ⟨b.p.M, b.p.L, b.p.S, up bo b.p.X⟩ := by simp only [rdP, hneg, Int.toNat_natCast, offX_is ho, if_false]
    obtain ⟨h1, h2⟩ := h.busR (p' := ⟨b.p.M, b.p.L, b.p.S, up bo b.p.X⟩) hb hk' hm'
    have hsm : ∀ q, b.p.M q < 256 := hB.mac.held.2.2.2.2.1
    rw [e3]
    have ea : .agg #[.int .i64 (wyC (rs ++ ds) a (k : Int)), .int .u64 (adC (rs ++ ds) a (k : Int))] = FaultV (if bo then 30 else 0) x := by simp only [wyC, adC, hneg, Int.toNat_natCast, offX_is ho, if_false, FaultV]
    rw [ea]
    have e4 : (bs.set i ⟨b.m, b.B, b.V, b.T, ⟨b.p.M, b.p.L, b.p.S, up bo b.p.X⟩⟩).map BSt.p = pb.set i ⟨b.p.M, b.p.L, b.p.S, up bo b.p.X⟩ := by rw [← e1, List.map_set]
    cases bo with
    | true =>
      obtain rfl := hs1 rfl
      have e5 : rdL (rs ++ ds) b.p a (k : Int) = [] := by simp only [rdL, hneg, Int.toNat_natCast, offX_is ho, if_false, if_true]
      rw [e5]
      exact ⟨none, 0, 0, rfl, ⟨_, _, sv, lv, wv, hd, lr, wr, hd2, E, F, h1.hand (Own.nilB _ _) (fun _ h => by cases h) (by simp) (fun k e => by cases e), e4⟩, h2⟩
    | false =>
      obtain ⟨gg, rfl, hgg, hn40, hrow⟩ := hs2 rfl
      have e5 : rdL (rs ++ ds) b.p a (k : Int) = bytesAt b.p.M a k := by simp only [rdL, hneg, Int.toNat_natCast, offX_is ho, if_false, Bool.false_eq_true]
      rw [e5]
      have hbb : bb ≤ gg := by have := h.R_lt; have := h.bbl.2; omega
      refine ⟨_, _, _, rfl, ⟨_, _, sv, lv, wv, hd, lr, wr, hd2, E, F, h1.hand (hrow.own (bytesAt_length _ _ _) hbb (by unfold maxLen; omega)) (bytesAt_lt hsm _ _) (by rw [bytesAt_length]; exact hn40) (fun q e => ?_), e4⟩, h2⟩
      cases e
      exact ⟨rc_new hgg, fun hq => absurd (h.blk_lt _ hq) (by show ¬ gg < _; omega)⟩
theorem k_bytesV {la : Option Addr} {ln lc : Nat} {xs : List Nat} (h : AlV w0 w bb R vr vd rs ds gs pb vs [(.slice la ln lc, xs)] G) : Calls Tryz.prog 35 #[.pointer (some ⟨R, 1, none⟩), .slice la ln lc] w fun e w' => e = .returned (.tuple #[]) ∧ Hid (AlV w0 w' bb R vr vd rs ds gs pb vs [] G) ∧ Hid (Bt w w') := by
  obtain ⟨col, bs, sv, lv, wv, hd, lr, wr, hd2, E, F, h, e1⟩ := h
  obtain ⟨ho, hsm, hlen, hc⟩ := h.hh _ (List.mem_singleton.2 rfl)
  refine (bk_keep h.bk ho (by show xs.length ≤ _; have : xs.length ≤ 1099511627776 := hlen; omega) hsm h.e4.1 (Nat.le_trans h.bbl.2 (Nat.le_of_lt h.R_lt)) (fun k e => (hc k e).2)).mono ?_
  rintro e w' ⟨rfl, lv', wv', hd', E', hb', hl', hs', hk'⟩
  obtain ⟨f1, f2, f3, f4, f6, f7, f8⟩ := h.kept hk' (fun j hj => by
    rcases hj with hj | ⟨h1, cur, h2⟩
    · exact .inl hj
    · exact .inr ⟨h1, cur, _, h2, .inl rfl⟩) (col' := rc col w.heap.size 1) (fun _ h => rc_old h)
  have hR : ∃ c, w.heap[R]? = some (.cells c 48 (0, 0)) := ⟨_, h.bk.blk⟩
  refine ⟨rfl, ⟨rc col w.heap.size 1, bs, sv, lv', wv', hd', lr, wr, hd2, E', F, ⟨f1, h.bbl, f2, f3, f4, h.lb, h.lf, hb', ⟨hb'.blk, h.bg.lrow.keeps hk' (fun j e => ?_), h.bg.wrow.keeps hk' (fun j e => ?_), h.bg.ne, fun x hx => ⟨f7 _ _ (h.bg.ents x hx).l, f7 _ _ (h.bg.ents x hx).w, (h.bg.ents x hx).sm⟩, h.bg.nodup⟩, ⟨hl', h.e4.2⟩, fun k hk => ?_, h.srow.keeps hk' (fun j e => ?_), fun x hx => (by cases hx), fun x hx => ⟨f7 _ _ (h.gg x hx).1, (h.gg x hx).2⟩, h.gn⟩, e1⟩, f8⟩
  · obtain ⟨cur, q⟩ := h.bg.lrow.tag j e
    exact ke_tag hR q (by decide) (by decide)
  · obtain ⟨cur, q⟩ := h.bg.wrow.tag j e
    exact ke_tag hR q (by decide) (by decide)
  · rcases hs' k hk with q | q | q
    · rw [rc_old (h.blk_lt k q)]
      exact h.ce k q
    · rw [rc_old (ho.lt k q).2]
      exact (hc k q).1
    · exact rc_new q
  · obtain ⟨cur, q⟩ := h.srow.tag j e
    exact ke_tag hR q (by decide) (by decide)
end
end Go.Proofs.YtddgoncbdlhhhaaGreat
