/- Parse of a text that is taken. Own work. -/
import Derived.Test.YtmkibolkcjallaaGreatDoorSyMake
namespace Go.Proofs.YtmkibolkcjallaaGreatDoor
open Go.RowKit Sc
theorem tkc_of {w : World} {base : Nat} {v : Value} {ts : List Tok} (h : OwnT w base v ts) (hp : 0 < ts.length) : ∃ g lc, v = .slice (some ⟨g, 0, none⟩) ts.length lc ∧ ts.length ≤ lc ∧ base ≤ g ∧ TkC w g ts := by
  obtain ⟨g, cap, e, h1, h3, h4, hc⟩ : ∃ g cap, v = .slice (some ⟨g, 0, none⟩) ts.length cap ∧ ts.length ≤ cap ∧ base ≤ g ∧ g < w.heap.size ∧ ∀ j i, (hj : j < ts.length) → i < 5 → w.cell? ⟨g, j * 5 + i, none⟩ = (encT ts[j])[i]? := by
    rcases h.2 with ⟨_, h0⟩ | ⟨g, cap, cur, rfl, hb, hg, hnc, hcm, hcs, ht⟩
    · omega
    · refine ⟨g, cap, rfl, hnc, hb, (Array.getElem?_eq_some_iff.1 hg).1, fun j i hj hi => ?_⟩
      rw [cell_of_row w g _ _ _ _ hg, ← Array.getElem?_toList, ← encTs_get ts j i hj hi, ← ht, List.getElem?_take_of_lt (by omega)]
  refine ⟨g, cap, e, h1, h3, h4, fun i hi => ⟨?_, ?_, ?_, ?_, ?_⟩⟩
  · exact hc i 0 hi (by omega)
  · exact hc i 1 hi (by omega)
  · exact hc i 2 hi (by omega)
  · exact hc i 3 hi (by omega)
  · exact hc i 4 hi (by omega)
/-- the boxes of Parse: the text, the tree, the place, why -/
structure Bx (h : Nat) (w : World) (v : Value) : Prop where
  src : w.heap[h]? = some (.cells #[v] 34 (0, 0))
  tree : w.heap[h + 1]? = some (.cells #[.int .i64 0, .string ⟨#[]⟩, .int .i64 0, .slice none 0 0, .slice none 0 0, .slice none 0 0, .slice none 0 0] 28 (0, 0))
  place : w.heap[h + 1 + 1]? = some (.cells #[.int .i64 0, .int .i64 0, .int .i64 0] 30 (0, 0))
  why : w.heap[h + 1 + 1 + 1]? = some (.cells #[.int .i64 0] 31 (0, 0))
theorem Bx.mv {h pb base : Nat} {w w' : World} {v : Value} (k : Bx h w v) (hm : Mv pb base w w') (hp : h + 4 ≤ pb) : Bx h w' v :=
  ⟨hm.stay _ _ _ _ (by omega) (by decide) k.src, hm.stay _ _ _ _ (by omega) (by decide) k.tree, hm.stay _ _ _ _ (by omega) (by decide) k.place, hm.stay _ _ _ _ (by omega) (by decide) k.why⟩
theorem Bx.below {h : Nat} {w w' : World} {v : Value} (k : Bx h w v) (hb : Below w.heap.size w w') : Bx h w' v := by
  have l := fun {i : Nat} {x : Obj} (e : w.heap[i]? = some x) => (hb.block i (Array.getElem?_eq_some_iff.1 e).1).trans e
  exact ⟨l k.src, l k.tree, l k.place, l k.why⟩
theorem Bx.start (w : World) (v : Value) : Bx w.heap.size ((((w.alloc (Obj.cells #[v] 34)).alloc (Obj.cells #[.int .i64 0, .string ⟨#[]⟩, .int .i64 0, .slice none 0 0, .slice none 0 0, .slice none 0 0, .slice none 0 0] 28)).alloc (Obj.cells #[.int .i64 0, .int .i64 0, .int .i64 0] 30)).alloc (Obj.cells #[.int .i64 0] 31)) v := by
  have s : ∀ (w : World) (o : Obj) (i : Nat) (x : Obj), w.heap[i]? = some x → (w.alloc o).heap[i]? = some x := fun w o i x e => (Below.heap_alloc w o i (Array.getElem?_eq_some_iff.1 e).1).trans e
  have n : ∀ (w : World) (o : Obj) (i : Nat), w.heap.size = i → (w.alloc o).heap[i]? = some o := fun w o i e => e ▸ heap_alloc_new w o
  exact ⟨s _ _ _ _ (s _ _ _ _ (s _ _ _ _ (n _ _ _ rfl))), s _ _ _ _ (s _ _ _ _ (n _ _ _ (by simp))), s _ _ _ _ (n _ _ _ (by simp)), n _ _ _ (by simp)⟩
theorem Rt.start {w : World} {b o cap g lc : Nat} {zs : List Nat} {ts : List Tok} (hs : Sl w (.slice (some ⟨b, o, none⟩) zs.length cap) zs) (hc : zs.length ≤ cap) (ht : TkC w g ts) (hp : 0 < ts.length) (hl : ts.length ≤ lc) (hb : b < w.heap.size) :
    Rt (w.alloc (.cells (par0 (.slice (some ⟨b, o, none⟩) zs.length cap) (.slice (some ⟨g, 0, none⟩) ts.length lc) zs.length).cells 52)) w.heap.size (w.heap.size + 1) b o cap g lc zs ts 0 (par0 (.slice (some ⟨b, o, none⟩) zs.length cap) (.slice (some ⟨g, 0, none⟩) ts.length lc) zs.length) [] := by
  have k : Keeps (fun _ => False) w (w.alloc (.cells (par0 (.slice (some ⟨b, o, none⟩) zs.length cap) (.slice (some ⟨g, 0, none⟩) ts.length lc) zs.length).cells 52)) := Keeps.alloc w _
  have hg := ht.1
  exact ⟨heap_alloc_new w _, rfl, hs.keeps k (fun _ _ => id), ht.keeps k id, fun _ => by simp [par0], fun e => by omega, hl, ⟨by omega, by omega⟩, ⟨rfl, .inl ⟨rfl, rfl⟩⟩, ⟨by omega, by omega, by omega⟩, by simp, hc⟩
theorem wpList_storeRow {ops : Array Oper} {rest : List Oper} {o : Oper} {ac : Act} {w : World} {b : Nat} {c c' : Array Value} {t : TypeId} {Q : Exit → Act → World → Prop} (hgd : o.guard = none) (hd : o.dst = none) (x y : Operand) (ho : o.op = .store t x y) (hx : ac.eval x = .pointer (some ⟨b, 0, none⟩)) (hy : ac.eval y = .agg c') (hh : w.heap[b]? = some (.cells c t (0, 0))) (hi : (Tryz.prog.info? t).map (·.size) = some c'.size) (hs : c.size = c'.size) (h1 : c'.all (·.oneCell') = true) (hk : wpList Tryz.prog ops Q rest ac (w.setRow b c')) : wpList Tryz.prog ops Q (o :: rest) ac w :=
  wpList_plain hgd fun K hK => by
    have hr := run_storeVar_row (P := Tryz.prog) w b t t c c' hh hi hs h1
    unfold Oper.wp execOp
    simp only [ho, hx, hy, Instr.storeAt, Instr.sureAddr, Sem.run_bind, Sem.run_pure, Result.andThen_ok, hr]
    rw [Oper.upon_skip, hd]
    exact hK _ _ hk
theorem setRow_heap {w : World} {b i : Nat} (hc : i ≠ b) (d : Array Value) : (w.setRow b d).heap[i]? = w.heap[i]? := by
  simp only [World.setRow, Array.getElem?_modify]
  rw [if_neg (fun h => hc h.symm)]
theorem setRow_same {w : World} {b : Nat} {c d : Array Value} {t : TypeId} {z : Nat × Nat} (h : w.heap[b]? = some (.cells c t z)) : (w.setRow b d).heap[b]? = some (.cells d t z) := by
  simp [World.setRow, Array.getElem?_modify, h]
theorem below_setRow {B : Nat} {a w : World} (h : Below B a w) {b : Nat} (hb : B ≤ b) (c : Array Value) : Below B a (w.setRow b c) :=
  h.trans ⟨rfl, rfl, rfl, by simp [World.setRow], fun k hk => setRow_heap (by omega) c⟩
def treeA : Array Value := #[.int .i64 0, .string ⟨#[115]⟩, .int .i64 7, .slice none 0 0, .slice none 0 0, .slice none 0 0, .slice none 0 0]
def placeA : Array Value := #[.int .i64 0, .int .i64 0, .int .i64 0]
theorem results_cells3 {fn : Func} {p1 p2 p3 : Tmp} {t1 t2 t3 : TypeId} (h : fn.results = #[.cell p1 t1, .cell p2 t2, .cell p3 t3]) {tmps : Array Value} {w : World} {a1 a2 a3 : Addr} {v1 v2 v3 : Value} (h1 : tmps.getD p1 undef = .pointer (some a1)) (h2 : tmps.getD p2 undef = .pointer (some a2)) (h3 : tmps.getD p3 undef = .pointer (some a3)) (l1 : (loadVar t1 a1).run Tryz.prog w = .ok v1 w) (l2 : (loadVar t2 a2).run Tryz.prog w = .ok v2 w) (l3 : (loadVar t3 a3).run Tryz.prog w = .ok v3 w) :
    (results fn tmps).run Tryz.prog w = .ok (.tuple #[v1, v2, v3]) w := by
  rw [Array.getD_eq_getD_getElem?] at h1 h2 h3
  simp only [results, h]
  simp [Sem.run_bind, Result.andThen, h1, h2, h3, asAddr, l1, l2, l3]
theorem catch_idle {p0 p1 p2 p3 p4 : Value} (w : World) :
    CallsD Tryz.prog 10 #[p0, p1, p2, p3, p4] .returning w fun e u' w' => e = .returned (.tuple #[]) ∧ u' = .returning ∧ w' = w := by
  refine callsD_of_wpS Tryz.func10 rfl fun c₀ cs hu => ?_
  apply wpS_seq
  apply wpS_region
  simp [wpOpsS, go_sem, recoverD, hu, Tryz.ntmps10, Exit.thenS]
  refine wpS_cond (t := false) (by simp [Act.eval, Array.replicate]) ?_
  simp only [Bool.false_eq_true, if_false]
  refine wpS_of_wp (wp_skip ?_)
  cases c₀
  simp_all [bodyPostS, results, Tryz.results10]
set_option maxRecDepth 100000 in
set_option maxHeartbeats 4000000 in
theorem parse_A {w : World} {b o cap : Nat} (ht : Tabs w) (hs : Sl w (.slice (some ⟨b, o, none⟩) 12 cap) zsA) (hcap : 12 ≤ cap) (hb : b < w.heap.size) (h9 : 4 ≤ w.heap.size) :
    Calls Tryz.prog 5 #[.slice (some ⟨b, o, none⟩) 12 cap] w fun e w' => e = .returned (.tuple #[.agg #[.int .i64 0, .string ⟨#[115]⟩, .int .i64 7, .slice none 0 0, .slice none 0 0, .slice none 0 0, .slice none 0 0], .agg #[.int .i64 0, .int .i64 0, .int .i64 0], .int .i64 0]) ∧ Below w.heap.size w w' := by
  have hmf : ∀ (fn : Fn) (first cap : Array Value) (w : World), (Instr.makeFunc fn first cap).run Tryz.prog w = .ok (.func fn first cap) w := fun _ _ _ _ => rfl
  go_enter_defers Tryz.func5, Tryz.ntmps5
  go_wp2_with fail
  have HX4 := Lib.hid (Bx.start w (Value.slice (some ⟨b, o, none⟩) 12 cap))
  obtain ⟨W4, hW4⟩ : ∃ W4, (((w.alloc (Obj.cells #[Value.slice (some ⟨b, o, none⟩) 12 cap] 34)).alloc (Obj.cells #[Value.int IntKind.i64 0, Value.string ⟨#[]⟩, Value.int IntKind.i64 0, Value.slice none 0 0, Value.slice none 0 0, Value.slice none 0 0, Value.slice none 0 0] 28)).alloc (Obj.cells #[Value.int IntKind.i64 0, Value.int IntKind.i64 0, Value.int IntKind.i64 0] 30)).alloc (Obj.cells #[Value.int IntKind.i64 0] 31) = W4 := ⟨_, rfl⟩
  have HB4 : Hid (Below w.heap.size w W4) := hW4 ▸ ((((Below.refl _ _).alloc (Nat.le_refl _) _).alloc (by simp) _).alloc (by simp; omega) _).alloc (by simp; omega) _
  have HZ4 : Hid (W4.heap.size = w.heap.size + 4) := show W4.heap.size = w.heap.size + 4 by rw [← hW4]; simp
  rw [hW4] at HX4 ⊢
  refine (ahead_ok (ht.below HB4.out) (hs.below HB4.out) (fun k hk => by cases hk; exact Nat.lt_of_lt_of_le hb HB4.out.size) (Nat.le_trans h9 HB4.out.size) (by rw [tokens_A])).mono ?_
  rintro e w5 ⟨lv, rfl, hT5, hb5⟩
  rw [tokens_A] at hT5
  obtain ⟨ga, lc, rfl, hlc, hga, htk⟩ := tkc_of hT5 (by decide)
  have HTk := Lib.hid htk
  have HB5 : Hid (Below w.heap.size w w5) := HB4.out.trans (hb5.mono HB4.out.size)
  have HX5 : Hid (Bx w.heap.size w5 (Value.slice (some ⟨b, o, none⟩) 12 cap)) := HX4.out.below hb5
  have HSl5 : Hid (Sl w5 (.slice (some ⟨b, o, none⟩) 12 cap) zsA) := hs.below HB5.out
  have HZ5 : Hid (w.heap.size + 4 ≤ w5.heap.size) := HZ4.out ▸ hb5.size
  have HLc : Hid (tsA.length ≤ lc) := hlc
  clear hT5 hb5 hW4 htk HX4 HB4 hlc hs ht
  rw [show tsA.length = 4 from rfl, show ((zsA.length : Nat) : Int) = 12 from rfl]
  go_wp2_with (first | (refine wpList_buildP (a := some ⟨b, o, none⟩) (b := some ⟨ga, 0, none⟩) (n := 12) (m := 4) (c := cap) (d := lc) (k := 12) (by rfl) (.tmp 13) (by rfl) (by rfl) ?_) | (refine wpList_storeP (a := some ⟨b, o, none⟩) (b := some ⟨ga, 0, none⟩) (n := 12) (m := 4) (c := cap) (d := lc) (k := 12) (by rfl) (by rfl) (.tmp 5) (.tmp 14) (by rfl) (by rfl) (by rfl) (by rfl) ?_))
  have HR6 : Hid (Rt (w5.alloc (.cells (par0 (.slice (some ⟨b, o, none⟩) 12 cap) (.slice (some ⟨ga, 0, none⟩) 4 lc) 12).cells 52)) w5.heap.size (w5.heap.size + 1) b o cap ga lc zsA tsA 0 (par0 (.slice (some ⟨b, o, none⟩) 12 cap) (.slice (some ⟨ga, 0, none⟩) 4 lc) 12) []) := Rt.start (zs := zsA) HSl5.out hcap HTk.out (by decide) HLc.out (Nat.lt_of_lt_of_le hb HB5.out.size)
  have HX6 : Hid (Bx w.heap.size (w5.alloc (.cells (par0 (.slice (some ⟨b, o, none⟩) 12 cap) (.slice (some ⟨ga, 0, none⟩) 4 lc) 12).cells 52)) (Value.slice (some ⟨b, o, none⟩) 12 cap)) := HX5.out.below ((Below.refl _ _).alloc (Nat.le_refl _) _)
  have HB6 : Hid (Below w.heap.size w (w5.alloc (.cells (par0 (.slice (some ⟨b, o, none⟩) 12 cap) (.slice (some ⟨ga, 0, none⟩) 4 lc) 12).cells 52))) := HB5.out.alloc HB5.out.size _
  refine (policy_ok HR6.out rfl rfl rfl rfl).mono ?_
  rintro e w7 ⟨rfl, par', hp7, e1, e2, e3, e4, e5, e6, e7, hm7⟩
  have HX7 : Hid (Bx w.heap.size w7 (Value.slice (some ⟨b, o, none⟩) 12 cap)) := HX6.out.mv hm7 HZ5.out
  have HB7 : Hid (Below w.heap.size w w7) := HB6.out.trans (hm7.keeps.below HB6.out.size (fun i _ hi => by have := HZ5.out; rcases hi with rfl | hi <;> omega))
  have d14 := hp7.cell 14 (v := .int .i64 par'.pos) rfl
  have d15 := hp7.cell 15 (v := .string par'.word) rfl
  have d16 := hp7.cell 16 (v := .int .i64 par'.wat) rfl
  have d17 := hp7.cell 17 (v := par'.index) rfl
  have d18 := hp7.cell 18 (v := par'.top) rfl
  have d19 := hp7.cell 19 (v := par'.items) rfl
  have d20 := hp7.cell 20 (v := par'.nodes) rfl
  rw [e1] at d14
  rw [e2] at d15
  rw [e3] at d16
  rw [e4] at d17
  rw [e5] at d18
  rw [e6] at d19
  rw [e7] at d20
  change w7.cell? _ = some (.slice none 0 0) at d18 d19
  clear hp7 e1 e2 e3 e4 e5 e6 e7 hm7 HR6 HX6 HB6 HX5 HB5 HTk HSl5
  have HX8 : Hid ((w7.setRow (w.heap.size + 1) treeA).heap[w.heap.size + 1 + 1]? = some (.cells #[.int .i64 0, .int .i64 0, .int .i64 0] 30 (0, 0))) := (setRow_heap (by omega) _).trans HX7.out.place
  have hx9 : ((w7.setRow (w.heap.size + 1) treeA).setRow (w.heap.size + 1 + 1) placeA).heap[w.heap.size + 1 + 1 + 1]? = some (.cells #[.int .i64 0] 31 (0, 0)) := (setRow_heap (by omega) _).trans ((setRow_heap (by omega) _).trans HX7.out.why)
  have c9 := box_cell hx9
  have z9 : ((w7.setRow (w.heap.size + 1) treeA).setRow (w.heap.size + 1 + 1) placeA).frozen? ⟨w.heap.size + 1 + 1 + 1, 0, none⟩ = false := by simp [World.frozen?, hx9]
  have HX9 := Lib.hid hx9
  clear hx9
  go_wp2_with (first | (refine wpList_storeRow (b := w.heap.size + 1) (c' := treeA) (by rfl) (by rfl) (.tmp 2) (.tmp 18) (by rfl) (by rfl) (by rfl) (by exact HX7.out.tree) (by kernel_rfl) (by rfl) (by kernel_rfl) ?_) | (refine wpList_storeRow (b := w.heap.size + 1 + 1) (c' := placeA) (by rfl) (by rfl) (.tmp 3) (.tmp 19) (by rfl) (by rfl) (by rfl) (by exact HX8.out) (by kernel_rfl) (by rfl) (by kernel_rfl) ?_))
  obtain ⟨W9, hW9⟩ : ∃ W9, ((w7.setRow (w.heap.size + 1) treeA).setRow (w.heap.size + 1 + 1) placeA).setCell ⟨w.heap.size + 1 + 1 + 1, 0, none⟩ (.int .i64 0) = W9 := ⟨_, rfl⟩
  have HB9 : Hid (Below w.heap.size w W9) := hW9 ▸ (below_setRow (below_setRow HB7.out (by omega) _) (by omega) _).setCell (p := ⟨w.heap.size + 1 + 1 + 1, 0, none⟩) (by show w.heap.size ≤ w.heap.size + 1 + 1 + 1; omega) _
  have t1 : W9.heap[w.heap.size + 1]? = some (.cells treeA 28 (0, 0)) := by
    rw [← hW9]
    exact (Below.heap_setCell _ _ _ _ (by show w.heap.size + 1 ≠ w.heap.size + 1 + 1 + 1; omega)).trans ((setRow_heap (by omega) _).trans (setRow_same HX7.out.tree))
  have t2 : W9.heap[w.heap.size + 1 + 1]? = some (.cells placeA 30 (0, 0)) := by
    rw [← hW9]
    exact (Below.heap_setCell _ _ _ _ (by show w.heap.size + 1 + 1 ≠ w.heap.size + 1 + 1 + 1; omega)).trans (setRow_same HX8.out)
  have t3 : W9.cell? ⟨w.heap.size + 1 + 1 + 1, 0, none⟩ = some (.int .i64 0) := by
    rw [← hW9]
    exact World.cell?_setCell_same' _ ⟨w.heap.size + 1 + 1 + 1, 0, none⟩ _ (by rw [c9]; rfl)
  rw [hW9]
  have l1 : (loadVar 28 ⟨w.heap.size + 1, 0, none⟩).run Tryz.prog W9 = .ok (.agg treeA) W9 := run_loadVar_row _ _ _ _ _ _ _ t1 Tryz.underlying28 rfl (by kernel_rfl)
  have l2 : (loadVar 30 ⟨w.heap.size + 1 + 1, 0, none⟩).run Tryz.prog W9 = .ok (.agg placeA) W9 := run_loadVar_row _ _ _ _ _ _ _ t2 Tryz.underlying30 rfl (by kernel_rfl)
  refine leaves_cons (f := 10) (args := #[.pointer (some ⟨w.heap.size, 0, none⟩), .pointer (some ⟨w5.heap.size, 0, none⟩), .pointer (some ⟨w.heap.size + 1, 0, none⟩), .pointer (some ⟨w.heap.size + 1 + 1, 0, none⟩), .pointer (some ⟨w.heap.size + 1 + 1 + 1, 0, none⟩)]) (by simp) (by simp [go_sem]) ?_
  refine (catch_idle _).mono ?_
  rintro e u' w'' ⟨rfl, rfl, rfl⟩
  have l3 : (loadVar 31 ⟨w.heap.size + 1 + 1 + 1, 0, none⟩).run Tryz.prog w'' = .ok (.int .i64 0) w'' := by simp [go_sem, t3]
  exact ⟨_, results_cells3 (p1 := 2) (p2 := 3) (p3 := 4) rfl rfl rfl rfl l1 l2 l3, rfl, HB9.out⟩
end Go.Proofs.YtmkibolkcjallaaGreatDoor
