/- chain, where one sign follows. Own work. -/
import Derived.Test.YtmkibolkcjallaaGreatDoorSyChain
namespace Go.Proofs.YtmkibolkcjallaaGreatDoor
open Go.RowKit Go.Shelf Sc
/-- one of the operations that may come next: a call of a func value -/
theorem readyEnter {P : Program} {md : Region.Mode} {ops : Array Oper} {Q : Exit → Act → World → Prop} {S : World → Prop} {i d : Nat} {o : Oper} {fuel : Nat} {listed : Array Bool} {a : Act} {w : World} {rs : List Nat} (hi : ops[i]? = some o) (hd : o.dst = some d) (hw : Region.wanted o (yielded ops a.tmps) = true)
    (f : FuncId) (args : Array Value) (hv : (execOp a.eval o).run P w = .ok (.enter f args) w) {R : Value → World → Prop}
    (hc : Calls P f args w fun e w' => ∃ v, e = .returned v ∧ R v w') (hS : ∀ v w', R v w' → S w') (hK : ∀ v w', R v w' → S w' → wpAnyH P md ops Q S fuel (listed.setIfInBounds i true) (a.put (some d) v) w') (hs : AllReadyH P md ops Q S fuel listed a w rs) : AllReadyH P md ops Q S fuel listed a w (i :: rs) := by
  rw [← hd] at hK
  refine AllReadyH.cons hi (fun K hK' => ?_) hs
  rw [if_pos hw]
  unfold Oper.wp
  rw [hv, Oper.upon_enter]
  refine hc.mono ?_
  rintro e w' ⟨v, rfl, h⟩
  exact hK'.out _ _ (hS v w' h) (hK v w' h)
set_option maxRecDepth 100000 in
set_option maxHeartbeats 4000000 in
theorem chain_one {w : World} {pb base b o cap g lc sg k k2 : Nat} {zs : List Nat} {ts : List Tok} {par : Par} {ss : List ByteArray} {s0 : ByteArray} {f : Nat} {r r2 : Int} {r3 : Nat} {ns : List Nd} {G G' : World → Par → List ByteArray → List Nd → Prop} {P2 : World → Par → List Nd → Prop}
    (hk : k < ts.length) (he : Enters Tryz.prog f) (hpart : Calls Tryz.prog f #[.pointer (some ⟨pb, 0, none⟩)] w fun e w' => e = .returned (.int .i64 r) ∧ ∃ par' ws', Ex w' pb base b o cap g lc zs ts k par' ws' ns ∧ ws'.length ≤ 400 ∧ par'.open_ = par.open_ ∧ Me pb base w par w' par')
    (hpart2 : ∀ W p, Ex W pb base b o cap g lc zs ts (k + 1) p [] ns → p.open_ = openN (ts[k].kind : Int) par.open_ → Calls Tryz.prog f #[.pointer (some ⟨pb, 0, none⟩)] W fun e w' => e = .returned (.int .i64 r2) ∧ ∃ p' ws' ns', Ex w' pb base b o cap g lc zs ts k2 p' ws' ns' ∧ ns'.length = r3 ∧ P2 w' p' ns' ∧ Me pb base W p w' p')
    (hr3 : r3 ≤ 1000) (hrr : r ≠ (r3 : Int))
    (hfin : ∀ W p' ws' ns' w' kb nv, Ex W pb base b o cap g lc zs ts k2 p' ws' ns' → P2 W p' ns' → Ex w' pb base b o cap g lc zs ts k2 { p' with items := nv } ws' (ns' ++ [⟨(ts[k].kind : Int), 0, ⟨#[]⟩, some ⟨kb, 0, none⟩, 2, 2, (ts[k].at_ : Int)⟩]) → Me pb base W p' w' { p' with items := nv } → Kd w' pb { p' with items := nv } kb r r2 → G w' { p' with items := nv } ws' (ns' ++ [⟨(ts[k].kind : Int), 0, ⟨#[]⟩, some ⟨kb, 0, none⟩, 2, 2, (ts[k].at_ : Int)⟩]))
    (hG : ∀ w1 p1 ws1 ns1, G w1 p1 ws1 ns1 → Ex w1 pb base b o cap g lc zs ts k2 p1 ws1 ns1 ∧ ws1.length ≤ 400)
    (hG2 : ∀ w1 p1 ws1 ns1 w2 wv, G w1 p1 ws1 ns1 → Ex w2 pb base b o cap g lc zs ts k2 { p1 with words := wv } (ws1 ++ (s0 :: ss)) ns1 → Me pb base w1 p1 w2 { p1 with words := wv } → G' w2 { p1 with words := wv } (ws1 ++ (s0 :: ss)) ns1)
    (hs : Sgn w pb par sg (s0 :: ss)) (hp : ts[k].at_ < ts[k].end_) (hq : ts[k].end_ ≤ zs.length) (hzt : mkS (lexB zs ts[k]) = s0) (ho : 0 ≤ par.open_ ∧ par.open_ ≤ 32) (ho2 : openN (ts[k].kind : Int) par.open_ ≤ 32)
    (hk2 : k2 < ts.length) (hp2 : ts[k2].at_ < ts[k2].end_) (hq2 : ts[k2].end_ ≤ zs.length) (hno : ∀ t ∈ s0 :: ss, mkS (lexB zs ts[k2]) ≠ t) (hl2 : ss.length ≤ 90) :
    Calls Tryz.prog 98 #[.pointer (some ⟨pb, 0, none⟩), .func (.func f) #[.pointer (some ⟨pb, 0, none⟩)] #[], .slice (some ⟨sg, 0, none⟩) (ss.length + 1) (ss.length + 1)] w fun e w' => e = .returned (.int .i64 (r3 : Int)) ∧ ∃ par' ws' ns', G' w' par' ws' ns' ∧ Me pb base w par w' par' := by
  have HP := Lib.hid hpart
  have HS := Lib.hid hs
  have HT : Hid (∀ w1 p1 ws1, Ex w1 pb base b o cap g lc zs ts k p1 ws1 ns → ws1.length ≤ 400 → p1.open_ = par.open_ → Sgn w1 pb p1 sg (s0 :: ss) → Calls Tryz.prog 94 #[.pointer (some ⟨pb, 0, none⟩), .slice (some ⟨sg, 0, none⟩) (ss.length + 1) (ss.length + 1)] w1 fun e w' => e = .returned (.bool true) ∧ ∃ v wv, Ex w' pb base b o cap g lc zs ts (k + 1) (p1.past ts[k] v wv) [] ns ∧ Me pb base w1 p1 w' (p1.past ts[k] v wv)) := fun w1 p1 ws1 h1 hl h3 h2 => takesOne_yes h1 hk hp hq hzt h2 (by omega) (by rw [h3]; omega) (by rw [h3]; exact ho2)
  have HT2 : Hid (∀ w1 p1 ws1 ns1, G w1 p1 ws1 ns1 → Sgn w1 pb p1 sg (s0 :: ss) → Calls Tryz.prog 94 #[.pointer (some ⟨pb, 0, none⟩), .slice (some ⟨sg, 0, none⟩) (ss.length + 1) (ss.length + 1)] w1 fun e w' => e = .returned (.bool false) ∧ ∃ p2 ws2, G' w' p2 ws2 ns1 ∧ Me pb base w1 p1 w' p2) := fun w1 p1 ws1 ns1 h1 h2 => by
    obtain ⟨hx, hl⟩ := hG w1 p1 ws1 ns1 h1
    refine (takesOne_no hx hk2 hp2 hq2 hno h2 (by omega) (by simp; omega)).mono ?_
    rintro e w' ⟨rfl, wv, x, y⟩
    exact ⟨rfl, _, _, hG2 _ _ _ _ _ _ h1 x y, y⟩
  have HP2 := Lib.hid hpart2
  have HFin := Lib.hid hfin
  have HRr : Hid (r ≠ (r3 : Int) ∧ r3 ≤ 1000) := ⟨hrr, hr3⟩
  have he' : ∀ (args : Array Value) (w : World), (callFunc f args).run Tryz.prog w = .ok (.enter f args) w := he
  have HEo : Hid (Enters Tryz.prog 95) := enters_of Tryz.func95 (by kernel_rfl) rfl
  clear hpart hs hpart2 hfin hG hG2 hno hrr
  obtain ⟨n, hn⟩ : ∃ n, ss.length + 1 = n := ⟨_, rfl⟩
  rw [hn] at HT HT2 ⊢
  go_enter Tryz.func98, Tryz.ntmps98
  go_wp2_with fail
  refine HP.out.mono ?_
  rintro e w1 ⟨rfl, p1, ws1, g1, l1, o1, m1⟩
  have HG1 := Lib.hid g1
  have HM1 := Lib.hid m1
  clear g1 m1 HP
  go_wp2_with fail
  go_loopw [7] (fun a wr => (a = .int .i64 r ∧ wr = w1) ∨ (a = .int .i64 (r3 : Int) ∧ Hid (∃ p ws ns, G wr p ws ns ∧ Me pb base w par wr p))) (fun a _ => if intOf a = r then 1 else 0)
  case atStart => exact .inl ⟨rfl, rfl⟩
  case round =>
    rcases hrel with ⟨rfl, rfl⟩ | ⟨rfl, HE⟩
    · go_wp2_with fail
      refine (HT.out _ _ _ HG1.out l1 o1 (HS.out.me HM1.out)).mono ?_
      rintro e w2 ⟨rfl, v2, u2', g2, m2⟩
      have HG2 := Lib.hid g2
      have HM2 := Lib.hid m2
      have c4 := g2.rt.parB.cell 4 (v := .int .i64 (ts[k].kind : Int)) rfl
      have c5 := g2.rt.parB.cell 5 (v := .int .u64 (ts[k].n : Int)) rfl
      have c6 := g2.rt.parB.cell 6 (v := .string (mkS ts[k].s)) rfl
      have c7 := g2.rt.parB.cell 7 (v := .int .i64 (ts[k].at_ : Int)) rfl
      have c8 := g2.rt.parB.cell 8 (v := .int .i64 (ts[k].end_ : Int)) rfl
      clear g2 m2
      go_wp2_with fail
      obtain ⟨p2, hp2'⟩ : ∃ p2, p1.past ts[k] v2 u2' = p2 := ⟨_, rfl⟩
      have HOp : Hid (p2.open_ = openN (ts[k].kind : Int) par.open_) := show _ = _ by rw [← hp2', ← o1]; rfl
      rw [hp2'] at HG2 HM2
      obtain ⟨W3, hW3⟩ : ∃ W3, w2.alloc (Obj.cells #[.int .i64 (ts[k].kind : Int), .int .u64 (ts[k].n : Int), .string (mkS ts[k].s), .int .i64 (ts[k].at_ : Int), .int .i64 (ts[k].end_ : Int)] 46) = W3 := ⟨_, rfl⟩
      have HB3 : Hid (TokB W3 w2.heap.size ts[k]) := hW3 ▸ heap_alloc_new w2 _
      have HX3 : Hid (Ex W3 pb base b o cap g lc zs ts (k + 1) p2 [] ns) := hW3 ▸ HG2.out.alloc _
      have HM3 : Hid (Me pb base w par W3 p2) := hW3 ▸ (HM1.out.trans HM2.out).alloc _
      have HA3 : Hid (w2.heap.size ≠ pb ∧ p2.words.ownBlock ≠ some w2.heap.size ∧ p2.items.ownBlock ≠ some w2.heap.size) := ⟨fun e => by have := HG2.out.rt.parB.lt; omega, fun e => by have := HG2.out.rt.own.lt _ e; omega, fun e => by have := HG2.out.nd.lt _ e; omega⟩
      rw [hW3]
      clear hW3 hp2' c4 c5 c6 c7 c8 HG2 HM2
      have HSv : Hid (∀ W' p', Me pb base W3 p2 W' p' → W'.cell? ⟨w2.heap.size, 0, none⟩ = some (.int .i64 (ts[k].kind : Int)) ∧ W'.cell? ⟨w2.heap.size, 1, none⟩ = some (.int .u64 (ts[k].n : Int)) ∧ W'.cell? ⟨w2.heap.size, 2, none⟩ = some (.string (mkS ts[k].s)) ∧ W'.cell? ⟨w2.heap.size, 3, none⟩ = some (.int .i64 (ts[k].at_ : Int)) ∧ W'.cell? ⟨w2.heap.size, 4, none⟩ = some (.int .i64 (ts[k].end_ : Int))) := fun W' p' m => by
        obtain ⟨x0, x1, x2, x3, x4⟩ := HB3.out.cells
        obtain ⟨y1, y2, y3⟩ := HA3.out
        exact ⟨m.cell x0 y1 y2 y3, m.cell x1 y1 y2 y3, m.cell x2 y1 y2 y3, m.cell x3 y1 y2 y3, m.cell x4 y1 y2 y3⟩
      have HCf : Hid (Calls Tryz.prog f #[.pointer (some ⟨pb, 0, none⟩)] W3.drew fun e w' => ∃ u, e = .returned u ∧ u = .int .i64 r2 ∧ ∃ p' ws' ns', Ex w' pb base b o cap g lc zs ts k2 p' ws' ns' ∧ ns'.length = r3 ∧ P2 w' p' ns' ∧ Me pb base W3 p2 w' p') := by
        refine (HP2.out _ _ HX3.out.drew HOp.out).mono ?_
        rintro e w' ⟨rfl, p', ws', ns', x1, x2, x3, x4⟩
        exact ⟨_, rfl, rfl, p', ws', ns', x1, x2, x3, (Me.refl _ _ _ _).drew.trans x4⟩
      have HCo : Hid (∀ w4 p4 ws4 ns4, Ex w4 pb base b o cap g lc zs ts k2 p4 ws4 ns4 → ns4.length = r3 → P2 w4 p4 ns4 → Me pb base W3 p2 w4 p4 → Calls Tryz.prog 95 #[.pointer (some ⟨pb, 0, none⟩), .agg #[.int .i64 (ts[k].kind : Int), .int .u64 (ts[k].n : Int), .string (mkS ts[k].s), .int .i64 (ts[k].at_ : Int), .int .i64 (ts[k].end_ : Int)], .int .i64 r, .int .i64 r2] w4 fun e w' => ∃ u, e = .returned u ∧ u = .int .i64 (r3 : Int) ∧ ∃ p5 ws5 ns5, G w' p5 ws5 ns5 ∧ Me pb base W3 p2 w' p5) := fun w4 p4 ws4 ns4 h4 l4 q4 m4 => by
        refine (operator_any h4 (by have := HRr.out.2; omega)).mono ?_
        rintro e w' ⟨rfl, kb, nv, x1, x2, x3⟩
        exact ⟨_, rfl, by rw [l4], _, ws4, _, HFin.out _ _ _ _ _ _ _ h4 q4 x1 x2 x3, m4.trans x2⟩
      refine wp_region_held_drew (S := fun W' => W'.cell? ⟨w2.heap.size, 0, none⟩ = some (.int .i64 (ts[k].kind : Int)) ∧ W'.cell? ⟨w2.heap.size, 1, none⟩ = some (.int .u64 (ts[k].n : Int)) ∧ W'.cell? ⟨w2.heap.size, 2, none⟩ = some (.string (mkS ts[k].s)) ∧ W'.cell? ⟨w2.heap.size, 3, none⟩ = some (.int .i64 (ts[k].at_ : Int)) ∧ W'.cell? ⟨w2.heap.size, 4, none⟩ = some (.int .i64 (ts[k].end_ : Int))) (by kernel_rfl) (HSv.out _ _ (Me.refl _ _ _ _).drew) (fun hHeld => ?_)
      simp only [List.size_toArray, List.length_cons, List.length_nil]
      refine takeH (i := 0) (d := 21) (v := .pointer (some ⟨pb, 0, none⟩)) rfl rfl (by kernel_rfl) (by kernel_rfl) (by kernel_rfl) (fun _ _ _ h => h) (Or.inl ⟨by kernel_rfl, by intro w hSw; (try dsimp only at hSw); obtain ⟨s0', s1', s2', s3', s4'⟩ := hSw; go_simp⟩) (by assumption) ?_
      refine takeH (i := 1) (d := 22) (v := .agg #[.int .i64 (ts[k].kind : Int), .int .u64 (ts[k].n : Int), .string (mkS ts[k].s), .int .i64 (ts[k].at_ : Int), .int .i64 (ts[k].end_ : Int)]) rfl rfl (by kernel_rfl) (by kernel_rfl) (by kernel_rfl) (fun _ _ _ h => h) (Or.inl ⟨by kernel_rfl, by intro w hSw; (try dsimp only at hSw); obtain ⟨s0', s1', s2', s3', s4'⟩ := hSw; go_simp⟩) (by assumption) ?_
      refine takeH (i := 2) (d := 23) (v := .int .i64 r) rfl rfl (by kernel_rfl) (by kernel_rfl) (by kernel_rfl) (fun _ _ _ h => h) (Or.inl ⟨by kernel_rfl, by intro w hSw; (try dsimp only at hSw); obtain ⟨s0', s1', s2', s3', s4'⟩ := hSw; go_simp⟩) (by assumption) ?_
      refine takeH (i := 3) (d := 24) (v := .func (.func f) #[.pointer (some ⟨pb, 0, none⟩)] #[]) rfl rfl (by kernel_rfl) (by kernel_rfl) (by kernel_rfl) (fun _ _ _ h => h) (Or.inl ⟨by kernel_rfl, by intro w hSw; (try dsimp only at hSw); obtain ⟨s0', s1', s2', s3', s4'⟩ := hSw; go_simp⟩) (by assumption) ?_
      refine wpAnyH_ready (rs := [4]) (by kernel_rfl) (by simp) ?_
      refine readyEnter (i := 4) (d := 25) rfl rfl (by kernel_rfl) f #[.pointer (some ⟨pb, 0, none⟩)] (by go_simp) HCf.out (fun u w' ⟨_, p', _, _, _, _, _, m⟩ => HSv.out _ _ m) ?_ AllReadyH.nil
      rintro u w4 ⟨rfl, p4, ws4, ns4, x4, l4, q4, m4⟩ hHeld4
      refine wpAnyH_ready (rs := [5]) (by kernel_rfl) (by simp) ?_
      refine readyCall (i := 5) (d := 26) rfl rfl (by kernel_rfl) 95 #[.tmp 21, .tmp 22, .tmp 23, .tmp 25] #[57, 46, 3, 3] rfl HEo.out #[.pointer (some ⟨pb, 0, none⟩), .agg #[.int .i64 (ts[k].kind : Int), .int .u64 (ts[k].n : Int), .string (mkS ts[k].s), .int .i64 (ts[k].at_ : Int), .int .i64 (ts[k].end_ : Int)], .int .i64 r, .int .i64 r2] (by simp [Act.eval, Act.put]) (HCo.out _ _ _ _ x4 l4 q4 m4) (fun u w' ⟨_, p', _, _, _, m⟩ => HSv.out _ _ m) ?_ AllReadyH.nil
      rintro u w5 ⟨rfl, p5, ws5, ns5, g5, m5⟩ hHeld5
      refine takeH (i := 6) (d := 7) (v := .int .i64 (r3 : Int)) rfl rfl (by kernel_rfl) (by kernel_rfl) (by kernel_rfl) (fun _ _ _ h => h) (Or.inl ⟨by kernel_rfl, by intro w hSw; (try dsimp only at hSw); obtain ⟨s0', s1', s2', s3', s4'⟩ := hSw; go_simp⟩) (by assumption) ?_
      have HE5 : Hid (∃ p ws ns, G w5 p ws ns ∧ Me pb base w par w5 p) := ⟨p5, ws5, ns5, g5, HM3.out.trans m5⟩
      refine wpAnyH_done (by kernel_rfl) ?_ _
      simp only [Act.put, List.setIfInBounds_toArray, List.set_cons_succ, List.set_cons_zero]
      clear hHeld hHeld4 hHeld5 x4 l4 q4 m4 g5 m5
      go_wp2_with fail
      go_roundw
      case rel => exact .inr ⟨rfl, HE5⟩
      case measure =>
        have := HRr.out.1
        show (if (r3 : Int) = r then 1 else 0) < (if r = r then 1 else 0)
        rw [if_neg (fun e => this e.symm), if_pos rfl]
        decide
    · go_wp2_with fail
      obtain ⟨p5, ws5, ns5, g5, m5⟩ := HE.out
      refine (HT2.out _ _ _ _ g5 (HS.out.me m5)).mono ?_
      rintro e w6 ⟨rfl, p6, ws6, g6, m6⟩
      have HG6 := Lib.hid g6
      have HM6 : Hid (Me pb base w par w6 p6) := m5.trans m6
      clear g6 m6 g5 m5
      go_wp2_with fail
      go_ret
      exact ⟨rfl, p6, ws6, ns5, HG6.out, HM6.out⟩
end Go.Proofs.YtmkibolkcjallaaGreatDoor
