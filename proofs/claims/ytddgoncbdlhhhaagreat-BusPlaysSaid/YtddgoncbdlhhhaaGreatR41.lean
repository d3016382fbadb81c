import Derived.Test.YtddgoncbdlhhhaaGreatR16
import Derived.Test.YtddgoncbdlhhhaaGreatR35
/- Roomy, Intact of bytes, at a seat of bus (taken off Book, Book2). Own work. -/
namespace Go.Proofs.YtddgoncbdlhhhaaGreat
open Go.RowKit
/-- a list with 80 more places, of which k bear the mark -/
def fillTo (p : List Nat) (m k : Nat) : List Nat := p ++ (List.replicate k m ++ List.replicate (80 - k) 0)
/-- what Roomy makes -/
def roomed (p : List Nat) (m : Nat) : List Nat := p ++ List.replicate 80 m
theorem fillTo_length (p : List Nat) (m k : Nat) (hk : k ≤ 80) : (fillTo p m k).length = p.length + 80 := by simp [fillTo]; omega
theorem roomed_length (p : List Nat) (m : Nat) : (roomed p m).length = p.length + 80 := by simp [roomed]
theorem fillTo_end (p : List Nat) (m : Nat) : fillTo p m 80 = roomed p m := by simp [fillTo, roomed]
theorem fillTo_set (p : List Nat) (m k : Nat) (hk : k < 80) : (fillTo p m k).set (p.length + k) m = fillTo p m (k + 1) := by
  unfold fillTo
  rw [show 80 - k = (80 - (k + 1)) + 1 from by omega, List.replicate_succ, List.replicate_succ']
  simp
theorem roomed_small {p : List Nat} {m : Nat} (hp : ∀ z ∈ p, z < 256) (hm : m < 256) : ∀ z ∈ roomed p m, z < 256 := by
  intro z hz
  rcases List.mem_append.1 hz with h | h
  · exact hp z h
  · rw [List.eq_of_mem_replicate h]; exact hm
theorem roomed_take (p : List Nat) (m : Nat) : (roomed p m).take p.length = p := by simp [roomed]
theorem roomed_get (p : List Nat) (m k : Nat) (h : k < 80) : (roomed p m).getD (p.length + k) 0 = m := by
  rw [roomed, List.getD_eq_getElem?_getD, List.getElem?_append_right (by omega), Nat.add_sub_cancel_left, List.getElem?_replicate, if_pos h]; rfl
set_option maxRecDepth 100000 in
set_option maxHeartbeats 2000000 in
theorem roomy_any {v : Value} {p : List Nat} {m : Nat} {w : World} (hv : Sl w v p) (hp : p.length ≤ 2147483647) :
    Calls Tryz.prog 56 #[v, .int .u8 ((m : Nat) : Int)] w fun e w' => e = .returned (.slice (some ⟨w.heap.size, 0, none⟩) (p.length + 80) (p.length + 80)) ∧ Row w' w.heap.size (roomed p m) ∧ Below w.heap.size w w' := by
  obtain ⟨ao, cap, rfl, h1, h2, h3, h4, h5⟩ := hv
  obtain ⟨i, hi, hz0, hz1, hz2⟩ := info_parts info_byte
  have H5 : Hid (∀ i, i < p.length → ∃ b o, ao = some ⟨b, o, none⟩ ∧ w.cell? ⟨b, o + i, none⟩ = some (.int .u8 (p.getD i 0 : Nat))) := h5
  have H3 : Hid (∀ z ∈ p, z < 256) := h3
  clear h3 h4 h5
  go_enter Tryz.func56, Tryz.ntmps56
  go_wp2_with (at_make; refine wpList_make_full _ rfl _ _ 27 rfl w.heap.size 5 i (.int .u8 0) 1 Tryz.underlying27 hi hz0 hz1 _ _ _ _ (p.length + 80) rfl rfl (by omega) (by omega) (by rw [hz2]; omega) (by simp only [maxLen]; omega) (Nat.le_refl _) ?_)
  intro w1 hown hgrow
  have hr0 : Row w1 w.heap.size (List.replicate (p.length + 80) 0) := row_made hown
  have hb1 : Below w.heap.size w w1 := (Below.refl _ _).grown hgrow (Nat.le_refl _) (by simp)
  have HR0 : Hid (Row w1 w.heap.size (List.replicate (p.length + 80) 0)) := hr0
  have HB1 : Hid (Below w.heap.size w w1) := hb1
  clear hown hgrow hr0 hb1
  have hsz : (Tryz.prog.info? 5).map (·.size) = some 1 := by rw [hi, Option.map_some, hz1]
  have hpos : 0 < (bvs p).length → (some ⟨w.heap.size, 0, none⟩ : Option Addr) = some ⟨w.heap.size, 0, none⟩ ∧ ∃ ad, ao = some ad ∧ ∀ j v, (bvs p)[j]? = some v → w1.cell? (ad.add j) = some v := by
    intro hp0
    rw [bvs_length] at hp0
    obtain ⟨b, o, e, _⟩ := H5.out 0 hp0
    refine ⟨rfl, ⟨b, o, none⟩, e, fun j v hj => ?_⟩
    have hjl : j < p.length := by simpa [bvs_length] using (List.getElem?_eq_some_iff.1 hj).1
    obtain ⟨b', o', e', hc⟩ := H5.out j hjl
    rw [e] at e'
    cases e'
    rw [bvs_get p j hjl] at hj
    rw [Addr.add_lit, HB1.out.cell (p := ⟨b, o + j, none⟩) (World.block_lt_of_cell? w _ hc), hc, hj]
  have HP := hpos
  have HPos : Hid (0 < (bvs p).length → (some ⟨w.heap.size, 0, none⟩ : Option Addr) = some ⟨w.heap.size, 0, none⟩ ∧ ∃ ad, ao = some ad ∧ ∀ j v, (bvs p)[j]? = some v → w1.cell? (ad.add j) = some v) := hpos
  have HSz : Hid ((Tryz.prog.info? 5).map (·.size) = some 1) := hsz
  have hpl := bvs_length p
  have HPl : Hid ((bvs p).length = p.length) := hpl
  clear hpos HP hsz hpl
  go_wp2_with (refine wpList_copy_splice rfl (.tmp 11) (.tmp 12) 27 27 rfl 5 Tryz.underlying27 HSz.out _ ao _ _ p.length cap rfl rfl w.heap.size 0 (bvs (List.replicate (p.length + 80) 0)) 5 HR0.out (bvs p) (by rw [HPl.out]; exact (Nat.min_eq_left (by omega)).symm) HPos.out (by rw [HPl.out, bvs_length, List.length_replicate]; omega) (bvs_one p) w.heap.size w HB1.out (Nat.le_refl _) ?_)
  intro w2 HG2 hB2
  have HR2 : Hid (Row w2 w.heap.size (fillTo p m 0)) := by
    have e := splice_front (p.length + 80) p
    rw [Nat.add_sub_cancel_left] at e
    have h := HG2.out
    rw [e] at h
    exact h
  have HB2 : Hid (Below w.heap.size w w2) := hB2
  have HB2' : Hid (Below w.heap.size w w2) := hB2
  clear hB2 HG2 HPos HSz HPl HR0 HB1 H5 H3
  go_wp2
  go_loopw [6] (fun i wr => ∃ k : Nat, k ≤ 80 ∧ i = .int .i64 ((p.length + k : Nat) : Int) ∧ Hid (Row wr w.heap.size (fillTo p m k)) ∧ Hid (Below w.heap.size w wr)) (fun i _ => p.length + 80 - (intOf i).toNat)
  case atStart => exact ⟨0, by omega, rfl, HR2, HB2⟩
  case round =>
    obtain ⟨k, hk, rfl, HR, HB⟩ := hrel
    by_cases hlt : k < 80
    · have hcell := HR.out.cell (p.length + k) (by rw [fillTo_length p m k hk]; omega)
      have hthaw := HR.out.thawed (p.length + k)
      generalize (fillTo p m k).getD (p.length + k) 0 = z at hcell
      go_wp2
      go_roundw
      case rel =>
        refine ⟨k + 1, by omega, by go_num, ?_, HB.out.setCell (Nat.le_refl _) _⟩
        have h := HR.out.set (p.length + k) m
        rw [fillTo_set p m k hlt] at h
        exact h
      case measure => simp [intOf]; omega
    · have HE : Hid (k = 80) := (by omega : k = 80)
      go_wp2
      go_ret
      refine ⟨rfl, ?_, HB.out⟩
      have h := HR.out
      rw [HE.out, fillTo_end] at h
      exact h
set_option maxRecDepth 100000 in
set_option maxHeartbeats 1000000 in
theorem intact_any {u v : Value} {p : List Nat} {m : Nat} {w : World} (hu : Sl w u (roomed p m)) (hv : Sl w v p) :
    Calls Tryz.prog 58 #[u, v, .int .u8 ((m : Nat) : Int)] w fun e w' => e = .returned (.bool true) ∧ Below w.heap.size w w' := by
  have hl := roomed_length p m
  obtain ⟨b, o, cap, rfl, h1, h2, h3, h4⟩ := hu.pos (by omega)
  have hfront := hu.front p.length (by omega)
  rw [roomed_take] at hfront
  rw [hl] at h1 h4 ⊢
  have HS : Hid (Calls Tryz.prog 34 #[.slice (some ⟨b, o, none⟩) p.length cap, v] w fun e w' => e = .returned (.bool true) ∧ Below w.heap.size w w') := same_any hfront hv
  have HC : Hid (∀ i, i < p.length + 80 → w.cell? ⟨b, o + i, none⟩ = some (.int .u8 ((roomed p m).getD i 0 : Nat))) := h4
  obtain ⟨ao, cap2, rfl, k1, k2, _⟩ := hv
  clear h4 h3 hu hfront hl
  unfold maxLen at h2 k2
  go_enter Tryz.func58, Tryz.ntmps58
  go_wp2_with fail
  refine HS.out.mono ?_
  rintro e w' ⟨rfl, hb⟩
  have HB : Hid (Below w.heap.size w w') := hb
  clear hb HS
  go_wp2
  go_loop [7] (fun i => ∃ k : Nat, k ≤ 80 ∧ i = .int .i64 ((p.length + k : Nat) : Int)) (fun i => p.length + 80 - (intOf i).toNat)
  case atStart => exact ⟨0, by omega, rfl⟩
  case round =>
    obtain ⟨k, hk, rfl⟩ := hrel
    by_cases hlt : k < 80
    · have hc0 := HC.out (p.length + k) (by omega)
      rw [roomed_get p m k hlt] at hc0
      have hc := (HB.out.cell (p := ⟨b, o + (p.length + k), none⟩) (World.block_lt_of_cell? w _ hc0)).trans hc0
      clear hc0
      go_wp2
      go_round
      case rel => exact ⟨k + 1, by omega, by go_num⟩
      case measure => simp [intOf]; omega
    · go_wp2
      go_ret
      exact ⟨rfl, HB.out⟩
end Go.Proofs.YtddgoncbdlhhhaaGreat
/- BusPlays: a step: Write (written by parts/gen_bpst.py). Own work. -/
namespace Go.Proofs.YtddgoncbdlhhhaaGreat
open Go.RowKit Go.Maps Go.Proofs.YtddgoncbdlhhhaaGreat.Sp Wk
set_option linter.unusedVariables false
section
variable {w0 w w' : World} {bb R : Nat} {vr vd : Value} {rs ds : List Sp} {col : Nat → Nat} {gs : List (Nat × Nat × Nat)} {bs : List BSt} {vs : List VSt} {H : List (Value × List Nat)} {G : List (Value × List Sp)} {sv lv wv : Value} {hd : Int} {lr wr : Value} {hd2 : Int} {E : List Ent} {F : List EntG} {pb pv : List Ps} {b N : Nat}
/-- a list of the law's own is beside -/
theorem Al.give {x : Value} {xs : List Nat} (h : Al w0 w bb R vr vd rs ds gs pb pv [] G) (hb : Below w.heap.size w w') (ho : Own w' w.heap.size x xs) (hx : ∀ z ∈ xs, z < 256) (hl : xs.length ≤ 1099511627776) : Al w0 w' bb R vr vd rs ds gs pb pv [(x, xs)] G := by
  obtain ⟨col, bs, vs, sv, lv, wv, hd, lr, wr, hd2, E, F, h, e1, e2⟩ := h
  obtain ⟨h1, _⟩ := h.low hb (col' := rc col w.heap.size 1) (fun _ h => rc_old h)
  refine ⟨_, bs, vs, sv, lv, wv, hd, lr, wr, hd2, E, F, h1.hand (ho.weak (Nat.le_trans h.bbl.2 (Nat.le_of_lt h.R_lt))) hx hl (fun k e => ⟨rc_new (ho.lt k e).1, fun hk => ?_⟩), e1, e2⟩
  have := h.blk_lt k hk
  have := (ho.lt k e).1
  omega
/-- all that there is, and a row of bytes that is nobody's -/
def AlF (w0 w : World) (bb R : Nat) (vr vd : Value) (rs ds : List Sp) (gs : List (Nat × Nat × Nat)) (pb pv : List Ps) (b N : Nat) : Prop :=
  ∃ col bs vs sv lv wv hd lr wr hd2 E F, AlI w0 w bb R vr vd rs ds col gs bs vs [] [] sv lv wv hd lr wr hd2 E F ∧ bs.map BSt.p = pb ∧ vs.map VSt.p = pv ∧ col b = 2 * (bs.length + vs.length) + 10 ∧ w0.heap.size ≤ b ∧ ∃ L, Row w b L ∧ L.length = N
theorem AlF.al (h : AlF w0 w bb R vr vd rs ds gs pb pv b N) : Al w0 w bb R vr vd rs ds gs pb pv [] [] := by
  obtain ⟨col, bs, vs, sv, lv, wv, hd, lr, wr, hd2, E, F, h, e1, e2, _⟩ := h
  exact ⟨col, bs, vs, sv, lv, wv, hd, lr, wr, hd2, E, F, h, e1, e2⟩
theorem AlF.set (h : AlF w0 w bb R vr vd rs ds gs pb pv b N) (j z : Nat) : AlF w0 (w.setCell ⟨b, j, none⟩ (.int .u8 (z : Int))) bb R vr vd rs ds gs pb pv b N := by
  obtain ⟨col, bs, vs, sv, lv, wv, hd, lr, wr, hd2, E, F, h, e1, e2, hc, hb, L, hL, hN⟩ := h
  have k := Keeps.setCell w b j (.int .u8 (z : Int))
  obtain ⟨f1, f2, f3, f4, f5, f6, f7, f8, f9, f10⟩ := h.frame (c := 2 * (bs.length + vs.length) + 10) k (fun q _ e c t fr hq => by
    subst e
    rw [show w.heap[q]? = _ from hL] at hq
    exact .inr (.inr (.inr (.inr (Obj.cells.inj (Option.some.inj hq)).2.1.symm)))) (fun q _ e => by subst e; exact hc) (by omega) (fun q e => by subst e; exact hb) (col' := col) (fun _ _ => rfl)
  refine ⟨col, bs, vs, sv, lv, wv, hd, lr, wr, hd2, E, F, ⟨f1, h.bbl, f2, fun i b' e => f3 i b' e ?_, fun i v e => f4 i v e (by omega), h.lb, h.lf, f5, f6, h.e4, f7, f8, f9, f10, h.gn⟩, e1, e2, hc, hb, L.set j z, hL.set j z, by rw [List.length_set]; exact hN⟩
  have := (List.getElem?_eq_some_iff.1 e).1
  omega
theorem Al.free {c n : Nat} {xs : List Nat} (h : Al w0 w bb R vr vd rs ds gs pb pv [(.slice (some ⟨b, 0, none⟩) n c, xs)] []) (hr : Row w b xs) : AlF w0 w bb R vr vd rs ds gs pb pv b xs.length := by
  obtain ⟨col, bs, vs, sv, lv, wv, hd, lr, wr, hd2, E, F, h, e1, e2⟩ := h
  obtain ⟨ho, _, _, hc⟩ := h.hh _ (List.mem_singleton.2 rfl)
  obtain ⟨hc1, hcE⟩ := hc b rfl
  obtain ⟨cur, ht⟩ := ho.tagB b rfl
  have hbb : bb ≤ b := (ho.lt b rfl).1
  have hco : ∀ j, j ≠ b → (if j = b then 2 * (bs.length + vs.length) + 10 else col j) = col j := fun j hj => if_neg hj
  refine ⟨fun j => if j = b then 2 * (bs.length + vs.length) + 10 else col j, bs, vs, sv, lv, wv, hd, lr, wr, hd2, E, F, ⟨h.below, h.bbl, h.sg, fun i b' e => ?_, fun i v e => ?_, h.lb, h.lf, h.bk, h.bg, h.e4, fun k hk => ?_, h.srow, fun x hx => (by cases hx), h.gg, h.gn⟩, e1, e2, if_pos rfl, Nat.le_trans h.bbl.1 hbb, xs, hr, rfl⟩
  · have hB := h.bus i b' e
    refine ⟨hB.mac, fun j hj => ?_, fun u hu j e' => ?_⟩
    · have hj2 := hB.own j hj
      have hne : j ≠ b := fun e3 => by subst e3; omega
      show (if j = b then _ else col j) = _ ∧ _
      rw [if_neg hne]
      exact hj2
    · by_cases hne : j = b
      · subst hne
        rcases hB.rows u hu j e' with q | q
        · omega
        · exact .inr q
      · show (((if j = b then _ else col j) = 0 ∧ _) ∨ _)
        rw [if_neg hne]
        exact hB.rows u hu j e'
  · have hV := h.rf i v e
    refine ⟨hV.rm, fun j hj => ?_, hV.low, hV.pgs⟩
    have hj2 := hV.own j hj
    have hne : j ≠ b := fun e3 => by subst e3; omega
    show (if j = b then _ else col j) = _
    rw [if_neg hne]
    exact hj2
  · show (if k = b then _ else col k) = 1
    rw [if_neg (fun (e : k = b) => hcE (e ▸ hk))]
    exact h.ce k hk
end
theorem alf_cell {w0 w : World} {bb R : Nat} {vr vd : Value} {rs ds : List Sp} {gs : List (Nat × Nat × Nat)} {pb pv : List Ps} {b N j : Nat} (h : AlF w0 w bb R vr vd rs ds gs pb pv b N) (hj : j < N) : (∃ y : Value, w.cell? ⟨b, j, none⟩ = some y) ∧ w.frozen? ⟨b, j, none⟩ = false := by
  obtain ⟨_, _, _, _, _, _, _, _, _, _, _, _, _, _, _, _, _, L, hL, rfl⟩ := h
  exact ⟨⟨_, hL.cell j hj⟩, hL.thawed j⟩
theorem Row.own {w : World} {g bb : Nat} {zs : List Nat} {n : Nat} (h : Row w g zs) (hn : zs.length = n) (hb : bb ≤ g) (hm : n ≤ maxLen) : Own w bb (.slice (some ⟨g, 0, none⟩) n n) zs := RowT.own (show RowT w _ g zs from h) hn hb hm
theorem own_row {w : World} {g bb n : Nat} {zs : List Nat} (h : Own w bb (.slice (some ⟨g, 0, none⟩) n n) zs) : Row w g zs := by
  rcases h.2 with ⟨e, _⟩ | ⟨g', cap, cur, e, hb, hg, h1, h2, h3, h4⟩
  · cases e
  · have e1 : g' = g ∧ zs.length = n ∧ cap = n := by
      simp only [Value.slice.injEq, Option.some.injEq, Addr.mk.injEq, and_true] at e
      exact ⟨e.1.symm, e.2.1.symm, e.2.2.symm⟩
    obtain ⟨rfl, rfl, rfl⟩ := e1
    have : cur = (bvs zs).toArray := by
      have h5 : cur.toList = bvs zs := by
        rw [← h4, Nat.mul_one]
        exact (List.take_of_length_le (by simp [h3])).symm
      rw [← h5]
    unfold Row
    rw [← this]
    exact hg
end Go.Proofs.YtddgoncbdlhhhaaGreat
/- BusPlays: a step: Write (written by parts/gen_bpst.py). Own work. -/
namespace Go.Proofs.YtddgoncbdlhhhaaGreat
open Go.RowKit Go.Maps Go.Proofs.YtddgoncbdlhhhaaGreat.Sp Wk
set_option linter.unusedVariables false
theorem sl_low {w0 W : World} {pa : Option Addr} {pc : Nat} {zs : List Nat} (h : Sl w0 (.slice pa zs.length pc) zs) (hb : Below w0.heap.size w0 W) : Sl W (.slice pa zs.length pc) zs := h.below hb
theorem sl_cap {w0 : World} {pa : Option Addr} {pc : Nat} {zs : List Nat} (h : Sl w0 (.slice pa zs.length pc) zs) : zs.length ≤ pc := by
  obtain ⟨ao, cap, e, h1, _⟩ := h
  cases e
  exact h1
theorem sl_p8o {w0 W : World} {pa : Option Addr} {pc : Nat} {zs : List Nat} (h : Sl w0 (.slice pa zs.length pc) zs) (hb : Below w0.heap.size w0 W) (h0 : 0 < zs.length) : ∃ gb off, pa = some ⟨gb, off, none⟩ ∧ gb < w0.heap.size ∧ P8o W gb off zs.length (fun i => zs.getD i 0) := by
  obtain ⟨b, o, cap, e, _, _, _, hc⟩ := h.pos h0
  cases e
  have hl : b < w0.heap.size := World.block_lt_of_cell? w0 _ (hc 0 h0)
  refine ⟨b, o, rfl, hl, Nat.lt_of_lt_of_le hl hb.size, fun i hi => ?_⟩
  exact (World.cell?_of_block (a := ⟨b, o + i, none⟩) (hb.block b hl)).trans (hc i hi)
theorem room_front {w : World} {b : Nat} {zs : List Nat} (h : Row w b (roomed zs 165)) (hz : ∀ z ∈ zs, z < 256) (hl : zs.length ≤ 2147483647) : Sl w (.slice (some ⟨b, 0, none⟩) zs.length (zs.length + 80)) zs := by
  have := h.sl (roomed_small hz (by omega)) 0 zs.length (zs.length + 80) (by rw [roomed_length]; omega) (by omega) (by unfold maxLen; omega)
  simpa [roomed] using this
set_option maxRecDepth 100000 in
set_option maxHeartbeats 8000000 in
theorem writes_any {w0 w : World} {bb R : Nat} {vr vd : Value} {rs ds : List Sp} {gs : List (Nat × Nat × Nat)} {ps : List Ps} {k i g m v : Nat} {p : Ps} {kd who n : Int} {a val : Nat} {pa : Option Addr} {pc : Nat} {zs : List Nat} (hB : BusOk w0 vr vd rs ds) (h : Al w0 w bb R vr vd rs ds gs ps ps [] []) (hgi : gs[i]? = some (g, m, v)) (hpi : ps[i]? = some p) (hps : ∀ p ∈ ps, Ps.le p k) (hk : k ≤ 4000000000000000000) (ha : a ≤ 18446744073709551615) (hP : Sl w0 (.slice pa zs.length pc) zs) (hzl : zs.length ≤ 2147483647) :
    Calls Tryz.prog 26 #[.pointer (some ⟨g, 0, none⟩), .agg #[.int .i64 kd, .int .i64 who, .int .u64 (a : Int), .int .i64 n, .int .u64 (val : Int), .slice pa zs.length pc]] w (SubP w0 bb R vr vd rs ds gs (k + 2)) := by
  obtain ⟨W1, hW1⟩ : ∃ W1, w.alloc (Obj.cells #[.int .i64 kd, .int .i64 who, .int .u64 (a : Int), .int .i64 n, .int .u64 (val : Int), .slice pa zs.length pc] 29) = W1 := ⟨_, rfl⟩
  have hb1 : Below w.heap.size w W1 := hW1 ▸ (Below.refl _ _).alloc (Nat.le_refl _) _
  have HO1 : Hid (OpAt W1 w.heap.size kd who a n val pa zs.length pc) := hW1 ▸ OpAt.new w kd who a n val pa zs.length pc
  have HA1 : Hid (Al w0 W1 bb R vr vd rs ds gs ps ps [] []) := (h.low hb1).1
  have HS1 : Hid (SeatAt W1 g m v) := HA1.out.seat hgi
  have HPs : Hid (∀ p ∈ ps, Ps.le p k) := hps
  have HGi := Lib.hid hgi
  have HPi := Lib.hid hpi
  have HPk : Hid (Ps.le p k) := hps p (List.mem_of_getElem? hpi)
  have HPl : Hid (∀ W, Below w0.heap.size w0 W → Sl W (.slice pa zs.length pc) zs) := fun W hW => sl_low hP hW
  have HRo : Hid (Calls Tryz.prog 56 #[.slice pa zs.length pc, .int .u8 165] W1 fun e w' => e = .returned (.slice (some ⟨W1.heap.size, 0, none⟩) (zs.length + 80) (zs.length + 80)) ∧ Row w' W1.heap.size (roomed zs 165) ∧ Below W1.heap.size W1 w') := roomy_any (m := 165) (HPl.out _ HA1.out.b0) hzl
  have HQ : Hid ((flP (rs ++ ds) p a (zs.length : Int) zs).le (k + 2)) := (flP_le (LL := rs ++ ds) (a := a) (n := (zs.length : Int)) HPk.out).mono (by omega)
  have HSz0 : Hid (∀ z ∈ zs, z < 256) := hP.small
  have HC2 : Hid (∀ W H, Al w0 W bb R vr vd rs ds gs (ps.set i (flP (rs ++ ds) p a (zs.length : Int) zs)) ps H [] → Calls Tryz.prog 59 #[.pointer (some ⟨v, 0, none⟩), .int .u64 (a : Int), .slice pa zs.length pc] W fun e w' => e = .returned (.agg #[.int .i64 (wyC (rs ++ ds) a (zs.length : Int)), .int .u64 (adC (rs ++ ds) a (zs.length : Int))]) ∧ Hid (Al w0 w' bb R vr vd rs ds gs (ps.set i (flP (rs ++ ds) p a (zs.length : Int) zs)) (ps.set i (flP (rs ++ ds) p a (zs.length : Int) zs)) H []) ∧ Hid (Bt W w')) := fun W H hW => d_write hB hW HGi.out HPi.out ha (HPk.out.mono (by omega)) (sl_cap hP) HSz0.out (sl_p8o hP hW.b0) hzl
  have HC1 : Hid (∀ W b, Al w0 W bb R vr vd rs ds gs ps ps [(.slice (some ⟨b, 0, none⟩) (zs.length + 80) (zs.length + 80), roomed zs 165)] [] → Calls Tryz.prog 57 #[.pointer (some ⟨m, 0, none⟩), .int .u64 (a : Int), .slice (some ⟨b, 0, none⟩) zs.length (zs.length + 80)] W fun e w' => e = .returned (.agg #[.int .i64 (wyC (rs ++ ds) a (zs.length : Int)), .int .u64 (adC (rs ++ ds) a (zs.length : Int))]) ∧ Hid (Al w0 w' bb R vr vd rs ds gs (ps.set i (flP (rs ++ ds) p a (zs.length : Int) zs)) ps [(.slice (some ⟨b, 0, none⟩) (zs.length + 80) (zs.length + 80), roomed zs 165)] []) ∧ Hid (Bt W w')) := fun W b hW => c_write hW HGi.out HPi.out ha (HPk.out.mono (by omega)) (room_front (own_row (hW.own (List.mem_singleton.2 rfl)).1) HSz0.out hzl) (fun _ => ⟨_, List.mem_singleton.2 rfl, rfl⟩) hzl
  have HIn : Hid (∀ W b pb pv, Al w0 W bb R vr vd rs ds gs pb pv [(.slice (some ⟨b, 0, none⟩) (zs.length + 80) (zs.length + 80), roomed zs 165)] [] → Calls Tryz.prog 58 #[.slice (some ⟨b, 0, none⟩) (zs.length + 80) (zs.length + 80), .slice pa zs.length pc, .int .u8 165] W fun e w' => e = .returned (.bool true) ∧ Below W.heap.size W w') := fun W b pb pv hW => intact_any (m := 165) ((hW.own (List.mem_singleton.2 rfl)).1.sl (hW.own (List.mem_singleton.2 rfl)).2) (HPl.out _ hW.b0)
  have HSm : Hid (∀ a b W, Calls Tryz.prog 20 #[.agg #[.int .i64 a, .int .u64 b], .agg #[.int .i64 a, .int .u64 b]] W fun e w' => e = .returned (.bool true) ∧ Below W.heap.size W w') := same_one
  obtain ⟨why, hwhy⟩ : ∃ why : Int, why = wyC (rs ++ ds) a (zs.length : Int) := ⟨_, rfl⟩
  obtain ⟨xx, hxx⟩ : ∃ xx : Int, xx = adC (rs ++ ds) a (zs.length : Int) := ⟨_, rfl⟩
  obtain ⟨q, hq⟩ : ∃ q : Ps, q = flP (rs ++ ds) p a (zs.length : Int) zs := ⟨_, rfl⟩
  rw [← hwhy, ← hxx, ← hq] at HC1 HC2
  rw [← hq] at HQ
  clear h hps hb1 hgi hpi hP hwhy hxx hq
  obtain ⟨_, _, _, _, _, o5⟩ := HO1.out.cells
  go_enter Tryz.func26, Tryz.ntmps26
  go_wp2_with fail
  try rw [hW1]
  refine HRo.out.mono ?_
  rintro e w2 ⟨rfl, hr2, hb2⟩
  have HDA : Hid (Al w0 w2 bb R vr vd rs ds gs ps ps [(.slice (some ⟨W1.heap.size, 0, none⟩) (zs.length + 80) (zs.length + 80), roomed zs 165)] []) := HA1.out.give hb2 (hr2.own (by rw [roomed_length]) (Nat.le_refl _) (by unfold maxLen; omega)) (roomed_small HSz0.out (by omega)) (by rw [roomed_length]; omega)
  have HDO := Lib.hid (HO1.out.below hb2)
  have HDS := Lib.hid (HS1.out.below hb2)
  generalize W1.heap.size = fb at *
  clear hr2 hb2 HRo HA1 HO1 HS1 o5 hW1 HPl
  obtain ⟨N8, hN8⟩ : ∃ N8, zs.length + 80 = N8 := ⟨_, rfl⟩
  have HN8 : Hid (zs.length + 80 = N8) := hN8
  rw [hN8] at HC1 HIn HDA ⊢
  obtain ⟨N, hN⟩ : ∃ N, zs.length = N := ⟨_, rfl⟩
  rw [hN] at HC1 HC2 HIn HDO hzl hN8 ⊢
  clear hN
  go_wp2_with fail
  have hgl := HDS.out.lt
  have hol := HDO.out.lt
  have hRl := HDA.out.R_lt
  have hne1 : g ≠ w2.heap.size := Nat.ne_of_lt hgl
  have hne2 : w.heap.size ≠ w2.heap.size := Nat.ne_of_lt hol
  have hbd : Below w2.heap.size w2 w2.drew := (Below.refl _ _).drew
  have hbx : Below w2.heap.size w2 (w2.alloc (Obj.cells #[.int .i64 0, .int .u64 0] 71)).drew := ((Below.refl _ _).alloc (Nat.le_refl _) _).drew
  have HA0 := Lib.hid (HDA.out.low hbd).1
  have HO0 := Lib.hid (HDO.out.below hbd)
  have HS0 := Lib.hid (HDS.out.below hbd)
  have HAb := Lib.hid (HDA.out.low hbx).1
  have HOb := Lib.hid (HDO.out.below hbx)
  have HSb := Lib.hid (HDS.out.below hbx)
  have HFb : Hid (BoxF (w2.alloc (Obj.cells #[.int .i64 0, .int .u64 0] 71)).drew w2.heap.size 0 0) := BoxF.new w2 0 0
  obtain ⟨s0, s1⟩ := HDS.out.cells
  obtain ⟨_, _, o2, _, _, o5⟩ := HDO.out.cells
  have HSz := Lib.hid (show w2.drew.cell? ⟨g, 0, none⟩ = some (.pointer (some ⟨m, 0, none⟩)) ∧ w2.drew.cell? ⟨w.heap.size, 2, none⟩ = some (.int .u64 (a : Int)) ∧ w2.drew.cell? ⟨w.heap.size, 5, none⟩ = some (.slice pa N pc) from ⟨s0, o2, o5⟩)
  have hz8 : N ≤ N8 := by omega
  have hz8i : (N : Int) ≤ (N8 : Int) := by omega
  have hz0i : (0 : Int) ≤ (N : Int) := by omega
  clear hbd hbx
  go_cut [6] (fun z wx => ∃ b1, z = .pointer (some ⟨b1, 0, none⟩) ∧ Hid (BoxF wx b1 why xx ∧ Al w0 wx bb R vr vd rs ds gs (ps.set i q) ps [(.slice (some ⟨fb, 0, none⟩) N8 N8, roomed zs 165)] [] ∧ OpAt wx w.heap.size kd who a n val pa N pc ∧ SeatAt wx g m v))
  case first =>
    go_region_held3 (fun wx => wx.cell? ⟨g, 0, none⟩ = some (.pointer (some ⟨m, 0, none⟩)) ∧ wx.cell? ⟨w.heap.size, 2, none⟩ = some (.int .u64 (a : Int)) ∧ wx.cell? ⟨w.heap.size, 5, none⟩ = some (.slice pa N pc)) (first | exact HS9.out | exact HS1.out | exact HSz.out | go_keep) (first | (go_at_call 57; refine (HC1.out _ _ HA0.out).mono ?_; rintro e x1 ⟨rfl, HAx, HBx⟩; have HOx := Lib.hid (HO0.out.bt HBx.out); have HSx := Lib.hid (HS0.out.bt HBx.out); have HS1 := Lib.hid (show x1.cell? ⟨g, 0, none⟩ = some (.pointer (some ⟨m, 0, none⟩)) ∧ x1.cell? ⟨w.heap.size, 2, none⟩ = some (.int .u64 (a : Int)) ∧ x1.cell? ⟨w.heap.size, 5, none⟩ = some (.slice pa N pc) from ⟨HSx.out.cells.1, HOx.out.cells.2.2.1, HOx.out.cells.2.2.2.2.2⟩); have hgx := HSx.out.lt; have hox := HOx.out.lt; obtain ⟨y0, y2, y5⟩ := HS1.out) | (go_at_call 57; refine (HC1.out _ _ HAb.out).mono ?_; rintro e x1 ⟨rfl, HAx, HBx⟩; have HOx := Lib.hid (HOb.out.bt HBx.out); have HSx := Lib.hid (HSb.out.bt HBx.out); have HFx := Lib.hid (HFb.out.bt HBx.out); obtain ⟨f0, f1, f2, f3⟩ := HFx.out.cells; have hfx := HFx.out.lt; have HS9 := Lib.hid (show ((x1.setCell ⟨w2.heap.size, 0, none⟩ (.int .i64 why)).setCell ⟨w2.heap.size, 1, none⟩ (.int .u64 xx)).cell? ⟨g, 0, none⟩ = some (.pointer (some ⟨m, 0, none⟩)) ∧ ((x1.setCell ⟨w2.heap.size, 0, none⟩ (.int .i64 why)).setCell ⟨w2.heap.size, 1, none⟩ (.int .u64 xx)).cell? ⟨w.heap.size, 2, none⟩ = some (.int .u64 (a : Int)) ∧ ((x1.setCell ⟨w2.heap.size, 0, none⟩ (.int .i64 why)).setCell ⟨w2.heap.size, 1, none⟩ (.int .u64 xx)).cell? ⟨w.heap.size, 5, none⟩ = some (.slice pa N pc) from ⟨(HSx.out.keep1 (Keeps.two x1 w2.heap.size (.int .i64 why) (.int .u64 xx)) hne1).cells.1, (HOx.out.keep1 (Keeps.two x1 w2.heap.size (.int .i64 why) (.int .u64 xx)) hne2).cells.2.2.1, (HOx.out.keep1 (Keeps.two x1 w2.heap.size (.int .i64 why) (.int .u64 xx)) hne2).cells.2.2.2.2.2⟩); have HS1 := Lib.hid (show x1.cell? ⟨g, 0, none⟩ = some (.pointer (some ⟨m, 0, none⟩)) ∧ x1.cell? ⟨w.heap.size, 2, none⟩ = some (.int .u64 (a : Int)) ∧ x1.cell? ⟨w.heap.size, 5, none⟩ = some (.slice pa N pc) from ⟨HSx.out.cells.1, HOx.out.cells.2.2.1, HOx.out.cells.2.2.2.2.2⟩); have hgx := HSx.out.lt; have hox := HOx.out.lt; obtain ⟨y0, y2, y5⟩ := HS1.out))
    all_goals
      go_wp2_with fail
      go_meet
      first
        | exact ⟨_, rfl, BoxF.new x1 why xx, (HAx.out.low ((Below.refl _ _).alloc (Nat.le_refl _) _)).1, HOx.out.below ((Below.refl _ _).alloc (Nat.le_refl _) _), HSx.out.below ((Below.refl _ _).alloc (Nat.le_refl _) _)⟩
        | exact ⟨_, rfl, HFx.out.set why xx, HAx.out.box HFx.out (.inl rfl) (Nat.le_of_lt hRl) (Keeps.two x1 w2.heap.size _ _), HOx.out.keep1 (Keeps.two x1 w2.heap.size _ _) hne2, HSx.out.keep1 (Keeps.two x1 w2.heap.size _ _) hne1⟩
  case rest =>
    obtain ⟨b1, rfl, HR⟩ := hcut
    obtain ⟨hf3, ha3, ho3, hs3⟩ := HR.out
    have HEA := Lib.hid ha3
    have HEO := Lib.hid ho3
    have HES := Lib.hid hs3
    have HF3 := Lib.hid hf3
    clear HR hf3 ha3 ho3 hs3 HA0 HO0 HS0 HAb HOb HSb HFb HSz s0 s1 o2 o5 hgl hol hRl hne1 hne2 HC1 HDA HDO HDS
    go_upto_region 3 with fail
    have HA0 := Lib.hid (HEA.out.low ((Below.refl _ wc).drew)).1
    have HO0 : Hid (OpAt wc.drew w.heap.size kd who a n val pa N pc) := HEO.out
    have HT0 : Hid (SeatAt wc.drew g m v) := HES.out
    have HF0 : Hid (BoxF wc.drew b1 why xx) := HF3.out
    obtain ⟨s0, s1⟩ := HES.out.cells
    obtain ⟨_, _, o2, _, _, o5⟩ := HEO.out.cells
    obtain ⟨f0, f1, _, _⟩ := HF3.out.cells
    have HSz := Lib.hid (show wc.drew.cell? ⟨g, 1, none⟩ = some (.pointer (some ⟨v, 0, none⟩)) ∧ wc.drew.cell? ⟨w.heap.size, 2, none⟩ = some (.int .u64 (a : Int)) ∧ wc.drew.cell? ⟨w.heap.size, 5, none⟩ = some (.slice pa N pc) ∧ wc.drew.cell? ⟨b1, 0, none⟩ = some (.int .i64 why) ∧ wc.drew.cell? ⟨b1, 1, none⟩ = some (.int .u64 xx) from ⟨s1, o2, o5, f0, f1⟩)
    go_cut [7] (fun z wx => z = .bool true ∧ Hid (Al w0 wx bb R vr vd rs ds gs (ps.set i q) (ps.set i q) [(.slice (some ⟨fb, 0, none⟩) N8 N8, roomed zs 165)] []))
    case first =>
      go_region_held3 (fun wx => wx.cell? ⟨g, 1, none⟩ = some (.pointer (some ⟨v, 0, none⟩)) ∧ wx.cell? ⟨w.heap.size, 2, none⟩ = some (.int .u64 (a : Int)) ∧ wx.cell? ⟨w.heap.size, 5, none⟩ = some (.slice pa N pc) ∧ wx.cell? ⟨b1, 0, none⟩ = some (.int .i64 why) ∧ wx.cell? ⟨b1, 1, none⟩ = some (.int .u64 xx)) (first | exact HSx3.out | exact HSx2.out | exact HSx1.out | exact HSz.out | go_keep)
        (first
          | (go_at_call 58; refine (HIn.out _ _ _ _ HA0.out).mono ?_; rintro e x1 ⟨rfl, hb1⟩; have HA1 := Lib.hid (HA0.out.low hb1).1; have HO1 := Lib.hid (HO0.out.below hb1); have HT1 := Lib.hid (HT0.out.below hb1); have HF1 := Lib.hid (HF0.out.below hb1); have HSx1 := Lib.hid (show x1.cell? ⟨g, 1, none⟩ = some (.pointer (some ⟨v, 0, none⟩)) ∧ x1.cell? ⟨w.heap.size, 2, none⟩ = some (.int .u64 (a : Int)) ∧ x1.cell? ⟨w.heap.size, 5, none⟩ = some (.slice pa N pc) ∧ x1.cell? ⟨b1, 0, none⟩ = some (.int .i64 why) ∧ x1.cell? ⟨b1, 1, none⟩ = some (.int .u64 xx) from ⟨HT1.out.cells.2, HO1.out.cells.2.2.1, HO1.out.cells.2.2.2.2.2, HF1.out.cells.1, HF1.out.cells.2.1⟩); obtain ⟨_, _, _, _, _⟩ := HSx1.out)
          | (go_at_call 59; refine (HC2.out _ _ HA1.out).mono ?_; rintro e x2 ⟨rfl, HA2, HB2⟩; have HO2 := Lib.hid (HO1.out.bt HB2.out); have HT2 := Lib.hid (HT1.out.bt HB2.out); have HF2 := Lib.hid (HF1.out.bt HB2.out); have HSx2 := Lib.hid (show x2.cell? ⟨g, 1, none⟩ = some (.pointer (some ⟨v, 0, none⟩)) ∧ x2.cell? ⟨w.heap.size, 2, none⟩ = some (.int .u64 (a : Int)) ∧ x2.cell? ⟨w.heap.size, 5, none⟩ = some (.slice pa N pc) ∧ x2.cell? ⟨b1, 0, none⟩ = some (.int .i64 why) ∧ x2.cell? ⟨b1, 1, none⟩ = some (.int .u64 xx) from ⟨HT2.out.cells.2, HO2.out.cells.2.2.1, HO2.out.cells.2.2.2.2.2, HF2.out.cells.1, HF2.out.cells.2.1⟩); obtain ⟨_, _, _, _, _⟩ := HSx2.out)
          | (go_at_call 20; refine (HSm.out _ _ _).mono ?_; rintro e x3 ⟨rfl, hb3⟩; have HA3 := Lib.hid (HA2.out.low hb3).1; have HO3 := Lib.hid (HO2.out.below hb3); have HT3 := Lib.hid (HT2.out.below hb3); have HF3 := Lib.hid (HF2.out.below hb3); have HSx3 := Lib.hid (show x3.cell? ⟨g, 1, none⟩ = some (.pointer (some ⟨v, 0, none⟩)) ∧ x3.cell? ⟨w.heap.size, 2, none⟩ = some (.int .u64 (a : Int)) ∧ x3.cell? ⟨w.heap.size, 5, none⟩ = some (.slice pa N pc) ∧ x3.cell? ⟨b1, 0, none⟩ = some (.int .i64 why) ∧ x3.cell? ⟨b1, 1, none⟩ = some (.int .u64 xx) from ⟨HT3.out.cells.2, HO3.out.cells.2.2.1, HO3.out.cells.2.2.2.2.2, HF3.out.cells.1, HF3.out.cells.2.1⟩); obtain ⟨_, _, _, _, _⟩ := HSx3.out))
      all_goals
        go_wp2_with fail
        go_meet
        exact ⟨rfl, HA3.out⟩
    case rest =>
      obtain ⟨rfl, HR⟩ := hcut
      have HFr : Hid (AlF w0 wc bb R vr vd rs ds gs (ps.set i q) (ps.set i q) fb N8) := by
        have := HR.out.free (own_row (HR.out.own (List.mem_singleton.2 rfl)).1)
        rw [roomed_length, HN8.out] at this
        exact this
      clear HR HA0 HO0 HT0 HF0 HSz s0 s1 o2 o5 f0 f1 HEA HEO HES HF3 HC2 HIn HSm
      go_wp2_with fail
      go_loopw [8] (fun iv wr => ∃ j : Nat, j ≤ N8 ∧ iv = .int .i64 (j : Int) ∧ Hid (AlF w0 wr bb R vr vd rs ds gs (ps.set i q) (ps.set i q) fb N8)) (fun iv _ => N8 - (intOf iv).toNat)
      case atStart => exact ⟨0, Nat.zero_le _, rfl, HFr⟩
      case round =>
        obtain ⟨j, hj, rfl, HI⟩ := hrel
        by_cases hlt : j < N8
        · have ji : (j : Int) < (N8 : Int) := by omega
          have hw1 : IntKind.i64.wrap ((j : Int) + 1) = ((j + 1 : Nat) : Int) := by rw [IntKind.wrap_i64]; omega
          obtain ⟨y0, y1⟩ := alf_cell HI.out hlt
          have HI2 := Lib.hid (HI.out.set j 90)
          obtain ⟨y, hy⟩ := y0
          clear HFr HI
          go_wp2_with fail
          exact ⟨⟨j + 1, by omega, rfl, HI2⟩, by simp [intOf]; omega⟩
        · have ji : ¬ (j : Int) < (N8 : Int) := by omega
          go_wp2_with fail
          go_ret
          exact ⟨rfl, ps.set i q, HI.out.al, le_set HPs.out (by omega) HQ.out⟩
end Go.Proofs.YtddgoncbdlhhhaaGreat
