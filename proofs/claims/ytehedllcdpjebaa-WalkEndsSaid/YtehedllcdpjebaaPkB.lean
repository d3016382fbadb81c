import Derived.Test.YtehedllcdpjebaaPkC
import Derived.Test.YtehedllcdpjebaaPkA
import Derived.Test.YtehedllcdpjebaaWbAwake
import Derived.Test.YtehedllcdpjebaaWbOpen
import Derived.Test.YtehedllcdpjebaaRows
import Derived.WalkKit
import Derived.ProofKit
import Derived.OpenShut
import Derived.ShutString
import Derived.ChangeOld
import Derived.Below
/- Leaves at a root that is none; with none to be told. Own work. -/
namespace Go.Proofs.Ytehedllcdpjebaa
open Go.RowKit Go.Shelf Wk Lv
attribute [local go_sem] Oper.semAt_some
set_option maxRecDepth 100000 in
theorem pages_root (w : World) : Calls Try.prog 20 #[.int .i64 (-1)] w fun e w' => e = .returned (.int .i64 134217728) ∧ Below w.heap.size w w' := by
  go_enter Try.func20, Try.ntmps20
  go_wp2_with fail
  refine bodyPost_ret (v := .int .i64 134217728) (by simp [results, Try.results20, go_sem]) rfl ⟨rfl, Below.refl _ _⟩
set_option maxRecDepth 100000 in
set_option maxHeartbeats 4000000 in
theorem leaves1_bad {n l0 Bm Bo Br root most : Nat} {T : TypeId} {u : Value} {W : World} {R : World → Prop} {bk : Bool} (hBm : W.cell? ⟨Bm, 0, none⟩ = some (.iface T u)) (hBo : W.cell? ⟨Bo, 0, none⟩ = some (.int .i64 (most : Int))) (hBr : W.cell? ⟨Br, 0, none⟩ = some (.int .u64 (root : Int))) (hroot : root % 4096 ≠ 0) (h1 : 1 ≤ most)
    (hyd : ∀ W', Below W.heap.size W W' → YieldAt Fence.wide (n - 1) Try.prog l0 #[.agg #[.int .u64 0, .int .u64 0, .int .i64 134217728, .bool false, .bool false, .bool false], .int .i64 42] W' fun e W'' => e = .returned (.bool bk) ∧ R W'') :
    CallsIn Fence.wide n Try.prog 19 #[.func (.yield l0) #[] #[], .pointer (some ⟨Bm, 0, none⟩), .pointer (some ⟨Bo, 0, none⟩), .pointer (some ⟨Br, 0, none⟩)] W fun e W' => (∃ v, e = .returned v) ∧ R W' := by
  have hbm : Bm < W.heap.size := World.block_lt_of_cell? W _ hBm
  have hbo : Bo < W.heap.size := World.block_lt_of_cell? W _ hBo
  have hbr : Br < W.heap.size := World.block_lt_of_cell? W _ hBr
  have HYd := Lib.hid hyd
  clear hyd
  obtain ⟨q, hq⟩ : ∃ q, q = root % 4096 := ⟨_, rfl⟩
  have hq0 : q ≠ 0 := by omega
  have hr : (root : Int).tmod 4096 = (q : Int) := by rw [Int.tmod_eq_emod_of_nonneg (by omega), hq]; omega
  have hr2 : (root : Int) % 4096 = (q : Int) := by omega
  have hqb : ((q : Int) != 0) = true := by simp; omega
  have hqi : ¬ (q : Int) = 0 := by omega
  have hmx : Try.prog.follows .mixedOrders = true := by kernel_rfl
  have HPg := Lib.hid pages_root
  clear hq hroot
  refine callsIn_of_wp_marks Try.func19 rfl trivial ?_ rfl
  simp only [Try.ntmps19, List.size_toArray, List.length_cons, List.length_nil, Nat.reduceAdd, Nat.reduceSub, Array.replicate_succ, Array.replicate_zero, List.push_toArray, List.append_toArray, List.nil_append, List.cons_append]
  gi_wp2
  obtain ⟨W2, hW2⟩ : ∃ W2, W.alloc (Obj.cells #[.func (.yield l0) #[] #[]] 64) = W2 := ⟨_, rfl⟩
  have HB2 := Lib.hid (show Below W.heap.size W W2 from hW2 ▸ (Below.refl _ W).alloc (Nat.le_refl _) _)
  have y0 : W2.cell? ⟨W.heap.size, 0, none⟩ = some (.func (.yield l0) #[] #[]) := hW2 ▸ cell_first W _ _
  have hlt : W.heap.size < W2.heap.size := World.block_lt_of_cell? W2 _ y0
  rw [hW2]
  clear hW2 hBm hBo hBr
  refine wpIn_mono (Q := NoPanic _) ?_ NoPanic.imp
  gi_region_with_o (first
    | (refine ⟨trivial, fun h => absurd h (by decide), ?_⟩; refine (callsIn_wide.2 (HPg.out _)).mono ?_; rintro e w3 ⟨rfl, hb3⟩; have hb3' := (Below.drew (Below.refl _ W2)).trans hb3; have y3 := (hb3'.cell (p := ⟨W.heap.size, 0, none⟩) hlt).trans y0; obtain ⟨fn, tmps, assign, body, hy, hR⟩ := HYd.out w3 (HB2.out.trans (hb3'.mono HB2.out.size)); have HR3 := Lib.hid hR; clear hR)
    | (refine ⟨fun h => absurd h (by decide), ?_⟩; refine HR3.out.mono ?_; rintro e W5 ⟨rfl, hJ5⟩; have HJ5 := Lib.hid hJ5; clear hJ5))
  all_goals (
    refine NoPanic.normal ?_
    gi_wp2
    exact ⟨_, results_none rfl _ _ _, ⟨_, rfl⟩, HJ5.out⟩)
section
variable {σ : Type} {lk : σ → Nat → Nat → Nat → (Ent × Int) × σ} {yd : σ → Slt → σ} {ct : σ → Slt → Bool} {f : σ → Nat} {C : Nat}
/-- whoever counts what is told counts no more than may be -/
def Few (f : σ → Nat) (C : Nat) (t : St σ) : Prop := (t.go = true → 1 ≤ t.left) ∧ f t.s + t.left ≤ C
theorem few_visit (hy : ∀ s x, f (yd s x) ≤ f s + 1) {t : St σ} (hgo : t.go = true) (h : Few f C t) (y : Slt) : Few f C (visitS yd ct t y) := by
  have h1 := h.1 hgo
  have h2 := h.2
  unfold visitS
  split
  · exact ⟨fun e => by have e' := of_decide_eq_true e; show 1 ≤ t.left - 1; omega, by show f t.s + (t.left - 1) ≤ C; omega⟩
  · have := hy t.s y
    refine ⟨fun e => ?_, by show f (yd t.s y) + (t.left - 1) ≤ C; omega⟩
    have e' : (ct t.s y && decide (1 < t.left)) = true := e
    rw [Bool.and_eq_true] at e'
    have := of_decide_eq_true e'.2
    show 1 ≤ t.left - 1
    omega
theorem few_tab (hl : ∀ s a b c, f (lk s a b c).2 ≤ f s) (hy : ∀ s x, f (yd s x) ≤ f s + 1) {deep : Nat → Nat → Nat → St σ → St σ} (hd : ∀ a b c t, Few f C t → Few f C (deep a b c t)) (fr virt lev : Nat) {t : St σ} (h : Few f C t) : ∀ i, Few f C (tabN lk yd ct deep fr virt lev i t)
  | 0 => h
  | i + 1 => by
    have hi := few_tab hl hy hd fr virt lev h i
    rw [tabN]
    split
    · rename_i hgo
      have h2 := hl (tabN lk yd ct deep fr virt lev i t).s fr i lev
      have hi2 : Few f C { tabN lk yd ct deep fr virt lev i t with s := (lk (tabN lk yd ct deep fr virt lev i t).s fr i lev).2 } := ⟨hi.1, by have := hi.2; show f (lk (tabN lk yd ct deep fr virt lev i t).s fr i lev).2 + (tabN lk yd ct deep fr virt lev i t).left ≤ C; omega⟩
      by_cases h41 : (lk (tabN lk yd ct deep fr virt lev i t).s fr i lev).1.2 = 41
      · rw [step_absent h41]
        exact hi2
      · rw [step_aft h41]
        have hv : ∀ y, Few f C (visitS yd ct { tabN lk yd ct deep fr virt lev i t with s := (lk (tabN lk yd ct deep fr virt lev i t).s fr i lev).2 } y) := fun y => few_visit hy (by exact hgo) hi2 y
        unfold aft
        split
        · exact hd _ _ _ _ (hv _)
        · exact hv _
    · exact hi
theorem few_all (hl : ∀ s a b c, f (lk s a b c).2 ≤ f s) (hy : ∀ s x, f (yd s x) ≤ f s + 1) (root : Nat) {t : St σ} (h : Few f C t) : Few f C (allS lk yd ct root t) :=
  few_tab hl hy (fun a b c _ h => few_tab hl hy (fun a b c _ h => few_tab hl hy (fun _ _ _ _ h => h) a b c h 512) a b c h 512) root 0 0 h 512
end
end Go.Proofs.Ytehedllcdpjebaa
/- WalkEnds, walked. Own work. -/
namespace Go.Proofs.Ytehedllcdpjebaa
open Go.RowKit Go.Maps Go.Shelf Go.Proofs.Ytehedllcdpjebaa.Sp Wk Lv
attribute [local go_sem] Oper.semAt_some
/-- a step of the script: kind, root, address, value, number -/
abbrev Op5 := Int × Nat × Nat × Nat × Int
/-- a script in memory below n -/
def OpsAt (n : Nat) (w : World) (v : Value) (os : List Op5) : Prop :=
  ∃ ao cap, v = .slice ao os.length cap ∧ os.length ≤ cap ∧ cap ≤ maxLen ∧ ∀ j (h : j < os.length), ∃ g off, ao = some ⟨g, off, none⟩ ∧ g < n ∧ w.cell? ⟨g, off + j * 5, none⟩ = some (.int .i64 os[j].1) ∧ w.cell? ⟨g, off + j * 5 + 1, none⟩ = some (.int .u64 (os[j].2.1 : Int)) ∧ w.cell? ⟨g, off + j * 5 + 2, none⟩ = some (.int .u64 (os[j].2.2.1 : Int)) ∧ w.cell? ⟨g, off + j * 5 + 3, none⟩ = some (.int .u64 (os[j].2.2.2.1 : Int)) ∧ w.cell? ⟨g, off + j * 5 + 4, none⟩ = some (.int .i64 os[j].2.2.2.2)
/-- marks of loops that are over -/
def Marks (n : Nat) : List Deferred → World → Prop
  | [], _ => True
  | d :: ds, W => ∃ D, d = { target := .collected D, args := #[] } ∧ n ≤ D ∧ W.heap[D]? = some (.deferred (some [])) ∧ (∀ e ∈ ds, e.target ≠ .collected D) ∧ Marks n ds W
theorem Marks.keeps {n : Nat} {Y : Nat → Prop} {W W' : World} (hk : Keeps Y W W') (hY : ∀ j o, W.heap[j]? = some (.deferred o) → ¬ Y j) : ∀ {ds : List Deferred}, Marks n ds W → Marks n ds W'
  | [], _ => trivial
  | _ :: _, ⟨D, h1, h2, h3, h4, h5⟩ => ⟨D, h1, h2, (hk.block D (Array.getElem?_eq_some_iff.1 h3).1 (hY D _ h3)).trans h3, h4, Marks.keeps hk hY h5⟩
theorem Marks.of {n : Nat} {W : World} : ∀ {ds : List Deferred}, Marks n ds W → ∀ e ∈ ds, ∃ D, D < W.heap.size ∧ e.target = .collected D
  | [], _, e, he => by cases he
  | d :: ds, ⟨D, h1, h2, h3, h4, h5⟩, e, he => by
    rcases List.mem_cons.1 he with rfl | he
    · exact ⟨D, (Array.getElem?_eq_some_iff.1 h3).1, by rw [h1]⟩
    · exact Marks.of h5 e he
theorem Marks.put {n : Nat} {W : World} {D : Nat} {o : Obj} : ∀ {ds : List Deferred}, Marks n ds W → (∀ e ∈ ds, e.target ≠ .collected D) → Marks n ds (W.putObj D o)
  | [], _, _ => trivial
  | d :: ds, ⟨D', h1, h2, h3, h4, h5⟩, h => ⟨D', h1, h2, by
      rw [World.putObj_heap_other (fun e => h d (List.mem_cons_self ..) (by rw [h1, e]))]
      exact h3, h4, Marks.put h5 (fun e he => h e (List.mem_cons_of_mem _ he))⟩
theorem leaves_marks {F : Fence} {m : Nat} {P : Program} {fn : Func} {tmps : Array Value} {R : Ending → World → Prop} {n : Nat} : ∀ (ds : List Deferred) (W : World), Marks n ds W → (∀ W', Keeps (fun j => n ≤ j) W W' → LeavesInM F m P fn tmps R [] .returning W') → LeavesInM F m P fn tmps R ds .returning W
  | [], W, _, h => h W (Keeps.refl _ _)
  | d :: ds, W, ⟨D, h1, h2, h3, h4, h5⟩, h => by
    subst h1
    refine ⟨by simp, .inl ⟨D, _, rfl, run_takeDeferred h3, leaves_marks ds _ (h5.put h4) (fun W' hk => h W' (((Keeps.putObj W D _).mono (S' := fun j => n ≤ j) (fun i _ e => by have e : i = D := e; omega)).trans hk (fun _ _ e => e)))⟩⟩
/-- where the law stands between two steps -/
structure EnI (xs : List Sp) (lv : Value) (w : World) (k : Nat) (ds : List Deferred) (W : World) : Prop where
  mem : OdG xs lv w.heap.size (k * 134480579) W
  box : W.heap[w.heap.size + 1]? = some (.cells #[lv, .pointer (some ⟨w.heap.size, 0, none⟩)] 41 (0, 0))
  below : Below w.heap.size w W
  marks : Marks (w.heap.size + 2) ds W
  size : w.heap.size + 2 ≤ W.heap.size
/-- within a step: the step in its block, the meter -/
structure RdI (xs : List Sp) (lv : Value) (w : World) (ds : List Deferred) (bo : Nat) (o : Op5) (m : Nat) (W : World) : Prop where
  mem : OdG xs lv w.heap.size m W
  box : W.heap[w.heap.size + 1]? = some (.cells #[lv, .pointer (some ⟨w.heap.size, 0, none⟩)] 41 (0, 0))
  below : Below w.heap.size w W
  marks : Marks (w.heap.size + 2) ds W
  size : w.heap.size + 2 ≤ W.heap.size
  op : W.heap[bo]? = some (.cells #[.int .i64 o.1, .int .u64 (o.2.1 : Int), .int .u64 (o.2.2.1 : Int), .int .u64 (o.2.2.2.1 : Int), .int .i64 o.2.2.2.2] 43 (0, 0))
  obig : w.heap.size + 2 ≤ bo
theorem OdG.cells {xs : List Sp} {lv : Value} {Ba m : Nat} {W : World} (h : OdG xs lv Ba m W) : ∀ o, W.heap[Ba]? ≠ some (.deferred o) := by
  obtain ⟨k, _, h⟩ := h
  intro o e
  have := h.count
  unfold IntAt at this
  rw [this] at e
  cases e
theorem OdG.below' {xs : List Sp} {lv : Value} {w : World} {m : Nat} {W W' : World} (hp : ∀ a n c, lv = .slice (some a) n c → a.block < w.heap.size) (h : OdG xs lv w.heap.size m W) (hb : Below (w.heap.size + 2) W W') : OdG xs lv w.heap.size m W' := (odd_env (N0 := w.heap.size + 2) (by omega) (fun a n c e => by have := hp a n c e; omega)).abides _ _ _ h hb
theorem RdI.step {xs : List Sp} {lv : Value} {w : World} {ds : List Deferred} {bo : Nat} {o : Op5} {m m' : Nat} {W W' : World} (h : RdI xs lv w ds bo o m W) (hk : Keeps (fun j => j = w.heap.size) W W') (hg : OdG xs lv w.heap.size m' W') : RdI xs lv w ds bo o m' W' := by
  have hs := h.size
  have ho := h.obig
  refine ⟨hg, ?_, h.below.trans (hk.below (by omega) (fun i _ e => by have e : i = w.heap.size := e; omega)), h.marks.keeps hk (fun j o e ej => ?_), Nat.le_trans hs hk.size, ?_, ho⟩
  · exact (hk.block _ (by omega) (by omega)).trans h.box
  · have ej : j = w.heap.size := ej
    rw [ej] at e
    exact h.mem.cells _ e
  · exact (hk.block _ (Array.getElem?_eq_some_iff.1 h.op).1 (by omega)).trans h.op
theorem RdI.later {xs : List Sp} {lv : Value} {w : World} {ds : List Deferred} {bo : Nat} {o : Op5} {m : Nat} {W W' : World} (hp : ∀ a n c, lv = .slice (some a) n c → a.block < w.heap.size) (h : RdI xs lv w ds bo o m W) (hb : Below W.heap.size W W') : RdI xs lv w ds bo o m W' := by
  have hs := h.size
  exact ⟨h.mem.below' hp (hb.mono hs), (hb.block _ (by omega)).trans h.box, h.below.trans (hb.mono (by omega)), h.marks.keeps (Keeps.of_below (S := fun _ => False) hb) (fun _ _ _ h => h), Nat.le_trans hs hb.size, (hb.block _ (Array.getElem?_eq_some_iff.1 h.op).1).trans h.op, h.obig⟩
theorem RdI.cells {xs : List Sp} {lv : Value} {w : World} {ds : List Deferred} {bo : Nat} {o : Op5} {m : Nat} {W : World} (h : RdI xs lv w ds bo o m W) : (W.cell? ⟨w.heap.size + 1, 0, none⟩ = some lv ∧ W.cell? ⟨w.heap.size + 1, 1, none⟩ = some (.pointer (some ⟨w.heap.size, 0, none⟩))) ∧ W.cell? ⟨bo, 0, none⟩ = some (.int .i64 o.1) ∧ W.cell? ⟨bo, 1, none⟩ = some (.int .u64 (o.2.1 : Int)) ∧ W.cell? ⟨bo, 2, none⟩ = some (.int .u64 (o.2.2.1 : Int)) ∧ W.cell? ⟨bo, 3, none⟩ = some (.int .u64 (o.2.2.2.1 : Int)) ∧ W.cell? ⟨bo, 4, none⟩ = some (.int .i64 o.2.2.2.2) := by
  have h1 := h.box
  have h2 := h.op
  simp [World.cell?, h1, h2]
theorem wrap_succ (a : Int) : wrap64 (wrap64 a + 1) = wrap64 (a + 1) := by unfold wrap64; omega
def lkO (xs : List Sp) (s : Nat × Nat) (_ _ lev : Nat) : (Ent × Int) × (Nat × Nat) := (lookO xs s.1 (lev : Int), (upO xs s.1, s.2))
def ydO (s : Nat × Nat) (_ : Slt) : Nat × Nat := (s.1, s.2 + 1)
def ctO (_ : Nat × Nat) (_ : Slt) : Bool := true
theorem lookO_frm (xs : List Sp) (k : Nat) (l : Int) : (lookO xs k l).1.1 + 4096 ≤ 18446744073709551616 := by
  unfold lookO
  split
  · have := entB_frm (nxO xs k).1.toNat l
    omega
  · decide
/-- the frame between two steps -/
inductive EnA (xs : List Sp) (al : Option Addr) (cl : Nat) (ao : Option Addr) (on cap : Nat) (w : World) : Act → World → Prop
  | mk {k : Nat} {ds : List Deferred} {u2 u3 u4 u8 u9 u10 u11 u12 u13 u14 u15 u16 u17 u18 u19 u20 u21 u22 u23 u24 u25 u26 u27 u28 u29 u30 u31 u32 u33 u34 u35 u36 u37 u38 u39 u40 u41 u42 u43 u44 u45 u46 u47 u48 u49 u50 u51 u52 u53 u54 u55 u56 u57 u58 u59 u60 u61 u62 u63 u64 u65 u66 u67 u68 u69 u70 u71 u72 u73 u74 u75 u76 u77 u78 u79 : Value} {wr : World} (hk : k ≤ 100) (HI : Hid (EnI xs (.slice al xs.length cl) w k ds wr)) : EnA xs al cl ao on cap w ({ tmps := #[.slice al xs.length cl, .slice ao on cap, u2, u3, u4, .pointer (some ⟨w.heap.size, 0, none⟩), .pointer (some ⟨w.heap.size + 1, 0, none⟩), .int .i64 (k : Int), u8, u9, u10, u11, u12, u13, u14, u15, u16, u17, u18, u19, u20, u21, u22, u23, u24, u25, u26, u27, u28, u29, u30, u31, u32, u33, u34, u35, u36, u37, u38, u39, u40, u41, u42, u43, u44, u45, u46, u47, u48, u49, u50, u51, u52, u53, u54, u55, u56, u57, u58, u59, u60, u61, u62, u63, u64, u65, u66, u67, u68, u69, u70, u71, u72, u73, u74, u75, u76, u77, u78, u79], defers := ds } : Act) wr
set_option maxRecDepth 100000 in
set_option maxHeartbeats 8000000 in
theorem ends_walk {w : World} {lv sv2 : Value} {xs : List Sp} {os : List Op5} (hl : U64.SV w lv xs) (hf : ∀ x ∈ xs, 0 ≤ x.1 ∧ x.1 ≤ 18446744073709551615 ∧ 0 ≤ x.2 ∧ x.2 ≤ 18446744073709551615) (hp : ∀ a n c, lv = .slice (some a) n c → a.block < w.heap.size) (ho : OpsAt w.heap.size w sv2 os) (hb : ∀ o ∈ os, o.2.1 ≤ 18446744073709551615 ∧ o.2.2.1 ≤ 18446744073709551615 ∧ o.2.2.2.1 ≤ 18446744073709551615) :
    Calls Try.prog 4 #[lv, sv2] w fun e w' => e = .returned (.bool true) ∧ Below w.heap.size w w' := by
  have HL := Lib.hid hl
  have HF := Lib.hid hf
  have HP := Lib.hid hp
  have HO := Lib.hid ho
  have HBo := Lib.hid hb
  obtain ⟨ao, cap, hsv2, hc1, hc2, _⟩ := ho
  have hos : os.length ≤ 9223372036854775807 := by unfold maxLen at hc2; omega
  obtain ⟨al, cl, hlv, _⟩ := hl
  clear hf hp hb hc1 hc2
  refine (callsIn_wide (n := 20)).1 ?_
  refine callsIn_of_wp_marks Try.func4 rfl trivial ?_ rfl
  simp only [Try.ntmps4, List.size_toArray, List.length_cons, List.length_nil, Nat.reduceAdd, Nat.reduceSub, Array.replicate_succ, Array.replicate_zero, List.push_toArray, List.append_toArray, List.nil_append, List.cons_append]
  refine wpIn_wide.2 ?_
  subst hlv hsv2
  go_wp2_with fail
  obtain ⟨W2, hW2⟩ : ∃ W2, (w.alloc (Obj.cells #[.int .i64 0] 3)).alloc (Obj.cells #[.slice al xs.length cl, .pointer (some ⟨w.heap.size, 0, none⟩)] 41) = W2 := ⟨_, rfl⟩
  have HI0 : Hid (EnI xs (.slice al xs.length cl) w 0 [] W2) := by
    have hb2 : Below w.heap.size w W2 := hW2 ▸ ((Below.refl _ w).alloc (Nat.le_refl _) _).alloc (by simp) _
    have hc : IntAt W2 w.heap.size ((0 : Nat) : Int) := by
      show _ = _
      rw [← hW2, Below.heap_alloc _ _ _ (by simp)]
      exact World.alloc_heap_new w _
    refine ⟨⟨0, Nat.zero_le _, ⟨HL.out.below hb2 (Nat.le_refl _), HF.out, hc, fun a n c e => by have := HP.out a n c e; omega⟩⟩, ?_, hb2, trivial, by rw [← hW2]; simp⟩
    have := World.alloc_heap_new (w.alloc (Obj.cells #[.int .i64 0] 3)) (Obj.cells #[.slice al xs.length cl, .pointer (some ⟨w.heap.size, 0, none⟩)] 41)
    rw [World.size_alloc, hW2] at this
    exact this
  rw [hW2]
  clear hW2 HL HF
  refine wp_loop (EnA xs al cl ao os.length cap w) (fun a _ => 100 - (intOf (a.tmps.getD 7 undef)).toNat) ?start ?round
  case start => exact EnA.mk (k := 0) (Nat.zero_le _) HI0
  case round =>
    intro a wr h
    clear HI0
    cases h with
    | mk hk HI =>
    rename_i k ds u2 u3 u4 u8 u9 u10 u11 u12 u13 u14 u15 u16 u17 u18 u19 u20 u21 u22 u23 u24 u25 u26 u27 u28 u29 u30 u31 u32 u33 u34 u35 u36 u37 u38 u39 u40 u41 u42 u43 u44 u45 u46 u47 u48 u49 u50 u51 u52 u53 u54 u55 u56 u57 u58 u59 u60 u61 u62 u63 u64 u65 u66 u67 u68 u69 u70 u71 u72 u73 u74 u75 u76 u77 u78 u79
    by_cases hlt : k < os.length ∧ k < 100
    · obtain ⟨hk1, hk2⟩ := hlt
      obtain ⟨ao', cap', e', _, hcap, hcells⟩ := HO.out
      cases e'
      obtain ⟨g, off, eao, hg, c0, c1, c2, c3, c4⟩ := hcells k hk1
      obtain ⟨hb1, hb2, hb3⟩ := HBo.out _ (List.getElem_mem hk1)
      subst eao
      have hB := HI.out.below
      replace c0 := (hB.cell (p := ⟨g, off + k * 5, none⟩) hg).trans c0
      replace c1 := (hB.cell (p := ⟨g, off + k * 5 + 1, none⟩) hg).trans c1
      replace c2 := (hB.cell (p := ⟨g, off + k * 5 + 2, none⟩) hg).trans c2
      replace c3 := (hB.cell (p := ⟨g, off + k * 5 + 3, none⟩) hg).trans c3
      replace c4 := (hB.cell (p := ⟨g, off + k * 5 + 4, none⟩) hg).trans c4
      generalize os[k] = o at c0 c1 c2 c3 c4 hb1 hb2 hb3
      obtain ⟨kd, rt, vt, vl, nn⟩ := o
      dsimp only at c0 c1 c2 c3 c4 hb1 hb2 hb3
      have ki1 : (k : Int) < (os.length : Int) := by omega
      have ki2 : (k : Int) < 100 := by omega
      have hsz := HI.out.size
      obtain ⟨N, hN⟩ : ∃ N, N = os.length := ⟨_, rfl⟩
      have HNo := Lib.hid hN
      rw [← hN] at ki1 ⊢
      have hNb : N ≤ 9223372036854775807 := by omega
      clear hN hcells hB hos
      have hbx : wr.cell? ⟨w.heap.size + 1, 0, none⟩ = some (.slice al xs.length cl) ∧ wr.cell? ⟨w.heap.size + 1, 1, none⟩ = some (.pointer (some ⟨w.heap.size, 0, none⟩)) := by
        have := HI.out.box
        simp [World.cell?, this]
      go_upto_region 7 with fail
      obtain ⟨Wo, hWo⟩ : ∃ Wo, wr.alloc (Obj.cells #[.int .i64 kd, .int .u64 (rt : Int), .int .u64 (vt : Int), .int .u64 (vl : Int), .int .i64 nn] 43) = Wo := ⟨_, rfl⟩
      have HRo : Hid (RdI xs (.slice al xs.length cl) w ds wr.heap.size (kd, rt, vt, vl, nn) (k * 134480579) Wo) := by
        have hb : Below wr.heap.size wr Wo := hWo ▸ (Below.refl _ _).alloc (Nat.le_refl _) _
        refine ⟨HI.out.mem.below' HP.out (hb.mono hsz), (hb.block _ (by omega)).trans HI.out.box, HI.out.below.trans (hb.mono (by omega)), HI.out.marks.keeps (Keeps.of_below (S := fun _ => False) hb) (fun _ _ _ h => h), Nat.le_trans hsz hb.size, ?_, hsz⟩
        rw [← hWo]
        exact World.alloc_heap_new wr _
      have hlo : wr.heap.size < Wo.heap.size := by rw [← hWo]; simp
      rw [hWo]
      clear hWo c0 c1 c2 c3 c4 hbx
      have E : GEnv (.iface 41 (.agg #[.slice al xs.length cl, .pointer (some ⟨w.heap.size, 0, none⟩)])) (OdG xs (.slice al xs.length cl) w.heap.size) (fun j => j = w.heap.size) (w.heap.size + 2) 4611686018427387904 (fun _ l r => ∃ k, r = lookO xs k l) := odd_env (by omega) (fun a n c e => by have := HP.out a n c e; omega)
      have A : GAcc 41 (.agg #[.slice al xs.length cl, .pointer (some ⟨w.heap.size, 0, none⟩)]) (OdG xs (.slice al xs.length cl) w.heap.size) (fun j => j = w.heap.size) (w.heap.size + 2) 4611686018427387904 _ _ _ := odd_acc
      have HT1 : Hid (∀ W, RdI xs (.slice al xs.length cl) w ds wr.heap.size (kd, rt, vt, vl, nn) (k * 134480579) W → Calls Try.prog 6 #[.iface 41 (.agg #[.slice al xs.length cl, .pointer (some ⟨w.heap.size, 0, none⟩)]), .int .u64 (rt : Int), .int .u64 (vt : Int), .int .i64 nn] W fun e w' => (∃ v, e = .returned v) ∧ Hid (RdI xs (.slice al xs.length cl) w ds wr.heap.size (kd, rt, vt, vl, nn) (k * 134480579 + 3) w')) := fun W hW => (translate_g E hW.mem hW.size (by omega) hb1 hb2).mono fun e w' ⟨r, he, _, h1, h2⟩ => ⟨⟨_, he⟩, hW.step h2 h1⟩
      have HL1 : Hid (∀ W, RdI xs (.slice al xs.length cl) w ds wr.heap.size (kd, rt, vt, vl, nn) (k * 134480579 + 3) W → Calls Try.prog 7 #[.iface 41 (.agg #[.slice al xs.length cl, .pointer (some ⟨w.heap.size, 0, none⟩)]), .int .u64 (rt : Int), .int .u64 (vt : Int), .int .i64 nn] W fun e w' => (∃ v, e = .returned v) ∧ Hid (RdI xs (.slice al xs.length cl) w ds wr.heap.size (kd, rt, vt, vl, nn) (k * 134480579 + 3 + 64) w')) := fun W hW => (load_g E A hW.mem hW.size (by omega) hb1).mono fun e w' ⟨⟨z, y, x, he⟩, h1, h2⟩ => ⟨⟨_, he⟩, hW.step h2.out h1.out⟩
      have HS1 : Hid (∀ W, RdI xs (.slice al xs.length cl) w ds wr.heap.size (kd, rt, vt, vl, nn) (k * 134480579 + 3 + 64) W → Calls Try.prog 8 #[.iface 41 (.agg #[.slice al xs.length cl, .pointer (some ⟨w.heap.size, 0, none⟩)]), .int .u64 (rt : Int), .int .u64 (vt : Int), .int .i64 nn, .int .u64 (vl : Int)] W fun e w' => (∃ v, e = .returned v) ∧ Hid (RdI xs (.slice al xs.length cl) w ds wr.heap.size (kd, rt, vt, vl, nn) (k * 134480579 + 3 + 64 + 64) w')) := fun W hW => (store_g E A hW.mem hW.size (by omega) hb1 hb3).mono fun e w' ⟨⟨y, x, he⟩, h1, h2⟩ => ⟨⟨_, he⟩, hW.step h2.out h1.out⟩
      have HF1 : Hid (∀ W, RdI xs (.slice al xs.length cl) w ds wr.heap.size (kd, rt, vt, vl, nn) (k * 134480579 + 3 + 64 + 64) W → Calls Try.prog 10 #[.iface 41 (.agg #[.slice al xs.length cl, .pointer (some ⟨w.heap.size, 0, none⟩)]), .int .u64 (rt : Int), .int .u64 (vt : Int), .int .i64 nn] W fun e w' => (∃ v, e = .returned v) ∧ Hid (RdI xs (.slice al xs.length cl) w ds wr.heap.size (kd, rt, vt, vl, nn) (k * 134480579 + 195) w')) := fun W hW => (fetch_g E A hW.mem hW.size (by omega) hb1).mono fun e w' ⟨⟨z, y, x, he⟩, h1, h2⟩ => ⟨⟨_, he⟩, hW.step h2.out h1.out⟩
      clear E A
      obtain ⟨⟨m0, m1⟩, o0, o1, o2, o3, o4⟩ := HRo.out.cells
      dsimp only at o0 o1 o2 o3 o4
      go_wp2_with fail
      refine (HT1.out _ HRo.out).mono ?_
      rintro e w3 ⟨⟨v3, rfl⟩, HR3⟩
      clear HT1 HRo m0 m1 o0 o1 o2 o3 o4
      obtain ⟨⟨m0, m1⟩, o0, o1, o2, o3, o4⟩ := HR3.out.cells
      dsimp only at o0 o1 o2 o3 o4
      go_wp2_with fail
      refine (HL1.out _ HR3.out).mono ?_
      rintro e w4 ⟨⟨v4, rfl⟩, HR4⟩
      clear HL1 HR3 m0 m1 o0 o1 o2 o3 o4
      obtain ⟨⟨m0, m1⟩, o0, o1, o2, o3, o4⟩ := HR4.out.cells
      dsimp only at o0 o1 o2 o3 o4
      go_wp2_with fail
      refine (HS1.out _ HR4.out).mono ?_
      rintro e w5 ⟨⟨v5, rfl⟩, HR5⟩
      clear HS1 HR4 m0 m1 o0 o1 o2 o3 o4
      obtain ⟨⟨m0, m1⟩, o0, o1, o2, o3, o4⟩ := HR5.out.cells
      dsimp only at o0 o1 o2 o3 o4
      go_wp2_with fail
      refine (HF1.out _ HR5.out).mono ?_
      rintro e w6 ⟨⟨v6, rfl⟩, HR6⟩
      clear HF1 HR5 m0 m1 o0 o1 o2 o3 o4
      go_upto_region 12 with fail
      obtain ⟨W7, hW7⟩ : ∃ W7, w6.alloc (Obj.cells #[.int .i64 0] 3) = W7 := ⟨_, rfl⟩
      have hb7 : Below w6.heap.size w6 W7 := hW7 ▸ (Below.refl _ _).alloc (Nat.le_refl _) _
      have HN7 : Hid (IntAt W7 w6.heap.size 0) := hW7 ▸ World.alloc_heap_new w6 _
      have HR7 := Lib.hid (HR6.out.later HP.out hb7)
      rw [hW7]
      clear hW7 hb7
      have hn6 : wr.heap.size < w6.heap.size := (Array.getElem?_eq_some_iff.1 HR6.out.op).1
      have HVm : Hid (∀ W, Calls Try.prog 9 #[.iface 41 (.agg #[.slice al xs.length cl, .pointer (some ⟨w.heap.size, 0, none⟩)]), .int .u64 (rt : Int), .int .i64 50] W _) := fun W => leaves_call (.iface 41 (.agg #[.slice al xs.length cl, .pointer (some ⟨w.heap.size, 0, none⟩)])) (.inr ⟨_, _, rfl⟩) rt 50 W
      obtain ⟨⟨m0, m1⟩, o0, o1, o2, o3, o4⟩ := HR7.out.cells
      dsimp only at o0 o1 o2 o3 o4
      go_wp2_with fail
      refine (HVm.out _).mono ?_
      rintro e w8 ⟨rfl, h8a, h8b, h8c, h8d, h8e⟩
      have HA8 := Lib.hid h8a
      have HO8 := Lib.hid h8b
      have HR8c := Lib.hid h8c
      have HS8 := Lib.hid h8d
      have HB8 := Lib.hid h8e
      have HR8 := Lib.hid (HR7.out.later HP.out h8e)
      have HN8 := Lib.hid (HN7.out.below h8e)
      clear h8a h8b h8c h8d h8e HVm m0 m1 o0 o1 o2 o3 o4
      have hnf := eql_seq_nil
      go_wp2_with fail
      have hn7 : w6.heap.size < W7.heap.size := HN7.out.lt
      clear hnf
      refine (wpIn_wide (n := 20)).1 ?_
      refine range_out (F := Fence.wide) rfl (by decide) (gf := 19) (lb := #[.pointer (some ⟨W7.heap.size, 0, none⟩), .pointer (some ⟨W7.heap.size + 2, 0, none⟩), .pointer (some ⟨W7.heap.size + 1, 0, none⟩)]) rfl trivial (enters_of Try.func19 (by kernel_rfl) rfl)
        (fun V => (∃ z : Nat, z ≤ 50 ∧ IntAt V w6.heap.size (z : Int)) ∧ Keeps (fun j => j = w.heap.size ∨ j = w6.heap.size) w8 V ∧ OdG xs (.slice al xs.length cl) w.heap.size ((k + 1) * 134480579) V ∧ V.heap[w8.heap.size]? = some (.deferred (some []))) (fun _ _ => False) ?it ?fin ?stop
      case stop => exact fun c V h => h.elim
      case it =>
        intro W1 r _ hrt hrp hra hrb hW1
        obtain ⟨l0, hl0⟩ : ∃ l, l = w8.heap.size + 1 := ⟨_, rfl⟩
        have HRc : Hid (RecAt W1 l0 r .ready none) := by
          have := World.alloc_heap_new (w8.alloc (.deferred (some []))) (.loop (recS r .ready none))
          rw [World.size_alloc, ← hW1, ← hl0] at this
          exact this
        have HDf : Hid (W1.heap[w8.heap.size]? = some (.deferred (some []))) := by
          show _ = _
          rw [hW1, Below.heap_alloc _ _ _ (by simp)]
          exact World.alloc_heap_new _ _
        have HB1 : Hid (Below w8.heap.size w8 W1) := hW1 ▸ (((Below.refl _ w8).alloc (Nat.le_refl _) _).alloc (by simp) _)
        clear hW1
        have HAr : Hid (w.heap.size + 2 ≤ wr.heap.size ∧ wr.heap.size < w6.heap.size ∧ w6.heap.size < W7.heap.size ∧ w8.heap.size = W7.heap.size + 3 ∧ l0 = w8.heap.size + 1 ∧ l0 < W1.heap.size) := ⟨hsz, hn6, hn7, HS8.out, hl0, HRc.out.lt⟩
        rw [← hl0]
        clear hl0
        obtain ⟨kk, hkk, hod⟩ := HR8.out.mem
        have HOd : Hid (OdI xs (.slice al xs.length cl) w.heap.size kk W1) := hod.below HB1.out
        have HKk := Lib.hid hkk
        have HN1 : Hid (IntAt W1 w6.heap.size 0) := HN8.out.below HB1.out
        clear hod hkk
        have HTell : Hid (∀ n' W (a b : Value) (z : Int), RecAt W l0 r .ready none → IntAt W w6.heap.size z → YieldAt Fence.wide n' Try.prog l0 #[a, b] W fun e W' => e = .returned (.bool true) ∧ RecAt W' l0 r .ready none ∧ IntAt W' w6.heap.size (wrap64 (z + 1)) ∧ Keeps (fun j => j = w6.heap.size ∨ j = l0) W W') := fun n' W a b z hrec hin => by
          have har := HAr.out
          have hlw := hrec.lt
          refine yield_of (F := Fence.wide) hrec (by rw [hrp]; rfl) trivial ?_
          rw [hra, hrt, hrp]
          have HRe := Lib.hid hrec
          have HIn := Lib.hid hin
          have HAr2 := Lib.hid har
          clear hrec hin har
          gi_wp2
          refine ⟨HRe.out, ?_⟩
          intro hbusy
          try rw [hrb]
          obtain ⟨Vb, hVb⟩ : ∃ Vb, W.putObj l0 (.loop (recS r .busy none)) = Vb := ⟨_, rfl⟩
          have HKb : Hid (Keeps (fun k => k = l0) W Vb) := hVb ▸ Keeps.putObj _ l0 _
          rw [hVb] at hbusy ⊢
          clear hVb
          have HBu := Lib.hid hbusy
          have HTb : Hid (IntAt Vb w6.heap.size z) := HIn.out.keeps HKb.out (by have := HAr2.out; omega)
          have t0 := HTb.out.cell
          have t1 := HTb.out.frozen
          clear hbusy
          gi_wp2
          have har := HAr2.out
          have hk := Keeps.setCell Vb w6.heap.size 0 (.int .i64 (wrap64 (z + 1)))
          have hrb2 : RecAt (Vb.setCell ⟨w6.heap.size, 0, none⟩ (.int .i64 (wrap64 (z + 1)))) l0 r .busy none := (hk.block l0 HBu.out.lt (by omega)).trans HBu.out
          exact ⟨hrb2, rfl, World.putObj_heap_same hrb2.lt, (HTb.out.set _).keeps (Keeps.putObj _ l0 _) (by omega), ((HKb.out.mono (S' := fun j => j = w6.heap.size ∨ j = l0) (fun _ _ e => .inr e)).trans hk (fun _ _ e => .inl e)).trans (Keeps.putObj _ l0 _) (fun _ _ e => .inr e)⟩
        have har := HAr.out
        have hbm : W1.cell? ⟨W7.heap.size, 0, none⟩ = some (.iface 41 (.agg #[.slice al xs.length cl, .pointer (some ⟨w.heap.size, 0, none⟩)])) := (HB1.out.cell (p := ⟨W7.heap.size, 0, none⟩) (by show W7.heap.size < _; omega)).trans HA8.out
        have hbo : W1.cell? ⟨W7.heap.size + 2, 0, none⟩ = some (.int .i64 ((50 : Nat) : Int)) := (HB1.out.cell (p := ⟨W7.heap.size + 2, 0, none⟩) (by show W7.heap.size + 2 < _; omega)).trans HO8.out
        have hbr : W1.cell? ⟨W7.heap.size + 1, 0, none⟩ = some (.int .u64 (rt : Int)) := (HB1.out.cell (p := ⟨W7.heap.size + 1, 0, none⟩) (by show W7.heap.size + 1 < _; omega)).trans HR8c.out
        have hpl : ∀ a n c, Value.slice al xs.length cl = .slice (some a) n c → a.block < w.heap.size := HP.out
        have HEnd : Hid (∀ e W' (kf tf : Nat), (∃ v, e = Ending.returned v) → OdI xs (.slice al xs.length cl) w.heap.size kf W' → kf ≤ kk + 134480384 → tf ≤ 50 → RecAt W' l0 r .ready none → IntAt W' w6.heap.size (wrap64 (tf : Int)) → Keeps (fun j => j = w.heap.size ∨ j = w6.heap.size ∨ j = l0) W1 W' → IterP l0 r (fun V => (∃ z : Nat, z ≤ 50 ∧ IntAt V w6.heap.size (z : Int)) ∧ Keeps (fun j => j = w.heap.size ∨ j = w6.heap.size) w8 V ∧ OdG xs (.slice al xs.length cl) w.heap.size ((k + 1) * 134480579) V ∧ V.heap[w8.heap.size]? = some (.deferred (some []))) (fun _ _ => False) e W') := fun e W' kf tf he h1 h2 h3 h4 h5 h6 => by
          have hw : wrap64 (tf : Int) = (tf : Int) := by unfold wrap64; omega
          rw [hw] at h5
          refine ⟨he, .inl ⟨h4, ⟨tf, h3, h5.keeps (Keeps.putObj _ l0 _) (by omega)⟩, ((Keeps.of_below (S := fun j => j = w.heap.size ∨ j = w6.heap.size) HB1.out).trans h6 (fun i hi h => by omega)).trans (Keeps.putObj _ l0 _) (fun i hi e => by omega), ⟨kf, by have := HKk.out; omega, h1.keeps (Keeps.putObj _ l0 _) (by omega) (fun a n c e => by have := hpl a n c e; omega)⟩, ?_⟩⟩
          rw [World.putObj_heap_other (by omega)]
          exact (h6.block _ (by omega) (by omega)).trans HDf.out
        by_cases hr4 : rt % 4096 = 0
        · have E : LvEnv (lkO xs) ydO ctO (fun _ => True) (fun s => s.1) 4611686018427387904 (fun s W => OdI xs (.slice al xs.length cl) w.heap.size s.1 W ∧ RecAt W l0 r .ready none ∧ IntAt W w6.heap.size (wrap64 (s.2 : Int))) (fun j => j = w.heap.size ∨ j = w6.heap.size ∨ j = l0) W1.heap.size l0 41 (.agg #[.slice al xs.length cl, .pointer (some ⟨w.heap.size, 0, none⟩)]) := by
            refine ⟨⟨fun _ _ _ _ _ => trivial, fun _ _ _ _ => trivial⟩, ?_, ?_, ?_, fun s fr i lev => lookO_frm _ _ _, ?_, fun s a b c => upO_le _ _, fun s x => Nat.le_refl _⟩
            · rintro s A B ⟨h1, h2, h3⟩ hb
              have hk : Keeps (fun k => W1.heap.size ≤ k) A B := ⟨hb.os, hb.tape, hb.output, hb.size, fun i hi hn => hb.block i (by omega)⟩
              exact ⟨h1.keeps hk (by omega) (fun a n c e => by have := hpl a n c e; omega), (hb.block l0 (by omega)).trans h2, h3.keeps hk (by omega)⟩
            · intro j hj
              omega
            · rintro s W fr i lev hlev hi hfr hc _ hN ⟨h1, h2, h3⟩
              refine (olook_any h1 (by have : s.1 < 4611686018427387904 := hc; omega) fr i (by omega) (lev : Int)).mono ?_
              rintro e w' ⟨he, h4, h5⟩
              exact ⟨he, ⟨h4, (h5.block l0 h2.lt (show ¬ l0 = w.heap.size by omega)).trans h2, h3.keeps h5 (show ¬ w6.heap.size = w.heap.size by omega)⟩, h5.mono (fun _ _ e => .inl e)⟩
            · rintro n' s W x _ _ _ _ hN ⟨h1, h2, h3⟩
              refine (HTell.out n' W _ _ _ h2 h3).mono ?_
              rintro e W' ⟨rfl, h4, h5, h6⟩
              refine ⟨rfl, ⟨h1.keeps h6 (by omega) (fun a n c e => by have := hpl a n c e; omega), h4, ?_⟩, h6.mono (fun _ _ e => .inr e)⟩
              rw [wrap_succ] at h5
              exact h5
          refine (leaves1_any E (n := 20 - 1) (root := rt) (most := 50) (s0 := (kk, 0)) (by decide) rfl hbm (by omega) hbo hbr hr4 (by omega) (by decide) (by decide) (by have := HKk.out; show kk + 134480384 ≤ _; omega) trivial ⟨HOd.out, HRc.out, ?_⟩).mono ?_
          · have h0 : wrap64 (((0 : Nat) : Int)) = 0 := by unfold wrap64; omega
            show IntAt W1 _ (wrap64 (((0 : Nat) : Int)))
            rw [h0]
            exact HN1.out
          · rintro e W' ⟨he, ⟨h1, h2, h3⟩, h4⟩
            have hfew := few_all (lk := lkO xs) (yd := ydO) (ct := ctO) (f := fun s => s.2) (C := 50) (fun _ _ _ _ => Nat.le_refl _) (fun _ _ => Nat.le_refl _) rt (t := { s := (kk, 0), left := 50, go := true }) ⟨fun _ => (by show 1 ≤ 50; decide), Nat.le_refl _⟩
            have hcn := cnt_tab (ct := ctO) E.cl E.cy (cnt1 (ct := ctO) E.cl E.cy) rt 0 0 { s := (kk, 0), left := 50, go := true } 512
            have hf2 := hfew.2
            exact HEnd.out e W' _ _ he h1 hcn (Nat.le_trans (Nat.le_add_right _ _) hf2) h2 h3 h4
        · refine (leaves1_bad (n := 20 - 1) (bk := true) (R := fun W' => OdI xs (.slice al xs.length cl) w.heap.size kk W' ∧ RecAt W' l0 r .ready none ∧ IntAt W' w6.heap.size (wrap64 (0 + 1)) ∧ Keeps (fun j => j = w.heap.size ∨ j = w6.heap.size ∨ j = l0) W1 W') hbm hbo hbr hr4 (by decide) (fun W' hb => ?_)).mono ?_
          · refine (HTell.out _ W' _ _ 0 ((hb.block l0 HRc.out.lt).trans HRc.out) (HN1.out.below hb)).mono ?_
            rintro e W'' ⟨rfl, h4, h5, h6⟩
            exact ⟨rfl, (HOd.out.below hb).keeps h6 (by omega) (fun a n c e => by have := hpl a n c e; omega), h4, h5, (Keeps.of_below hb).trans h6 (fun _ _ e => .inr e)⟩
          · rintro e W' ⟨he, h1, h2, h3, h4⟩
            exact HEnd.out e W' kk 1 he h1 (by omega) (by decide) h2 h3 h4
      case fin =>
      rintro V9 ⟨⟨z, hz, hn9⟩, hk9, hg9, hd9⟩
      have hc9 := hn9.cell
      have hz5 : ¬ (50 : Int) < (z : Int) := by omega
      have hzb : decide ((50 : Int) < (z : Int)) = false := by simpa using hz5
      have hEn : EnI xs (.slice al xs.length cl) w (k + 1) ({ target := .collected w8.heap.size, args := #[] } :: ds) V9 := by
        have hw6 := HR6.out.size
        have hmb := HR8.out.size
        have hs8 := HS8.out
        refine ⟨hg9, (hk9.block _ (by omega) (by omega)).trans HR8.out.box, HR8.out.below.trans (hk9.below (by omega) (fun i _ e => by omega)), ⟨w8.heap.size, rfl, by omega, hd9, fun e he he2 => ?_, HR8.out.marks.keeps hk9 (fun j o e ej => ?_)⟩, Nat.le_trans hmb hk9.size⟩
        · obtain ⟨D, hD, hD2⟩ := HR8.out.marks.of e he
          rw [hD2] at he2
          cases he2
          omega
        · rcases ej with rfl | rfl
          · exact HR8.out.mem.cells _ e
          · have := HN8.out
            unfold IntAt at this
            rw [this] at e
            cases e
      have HEn := Lib.hid hEn
      clear hEn hn9 hk9 hg9 hd9
      have hki : IntKind.i64.wrap ((k : Int) + 1) = ((k + 1 : Nat) : Int) := by rw [IntKind.wrap_i64]; omega
      go_wp2_with fail
      exact ⟨EnA.mk (k := k + 1) (by omega) HEn, by simp [intOf]; omega⟩
    · have HAw := Lib.hid awake_any
      have hkl : os.length ≤ k ∨ 100 ≤ k := by omega
      have hfin : ∀ (W : World), Below w.heap.size w W → Marks (w.heap.size + 2) ds W → ∀ (tm : Array Value), tm.getD 4 undef = .bool true → LeavesInM Fence.wide 20 Try.prog Try.f4 tm (fun e w' => e = .returned (.bool true) ∧ Below w.heap.size w w') ds .returning W := fun W hb hm tm ht => by
        refine leaves_marks ds W hm (fun W' hk => ?_)
        refine ⟨tm.getD 4 undef, results_tmp rfl _ _ _, ?_⟩
        rw [ht]
        exact ⟨rfl, hb.trans (hk.below hb.size (fun i _ e => by omega))⟩
      have HFin := Lib.hid hfin
      clear hfin
      have hbr : Below w.heap.size w wr := HI.out.below
      have hmr := HI.out.marks
      have HBr := Lib.hid hbr
      have HMr := Lib.hid hmr
      clear hbr hmr
      by_cases h1 : k < os.length
      · have ki1 : (k : Int) < (os.length : Int) := by omega
        have ki2 : ¬ (k : Int) < 100 := by omega
        have ki3 : decide ((k : Int) < 100) = false := by simpa using ki2
        go_wp2_with fail
        refine (HAw.out _).mono ?_
        rintro e w9 ⟨rfl, hb9⟩
        have HB9 := Lib.hid hb9
        clear hb9
        go_wp2_with fail
        exact HFin.out w9 (HBr.out.trans (HB9.out.mono HBr.out.size)) (HMr.out.keeps (Keeps.of_below (S := fun _ => False) HB9.out) (fun _ _ _ h => h)) _ rfl
      · have ki1 : ¬ (k : Int) < (os.length : Int) := by omega
        have ki3 : decide ((k : Int) < (os.length : Int)) = false := by simpa using ki1
        go_wp2_with fail
        refine (HAw.out _).mono ?_
        rintro e w9 ⟨rfl, hb9⟩
        have HB9 := Lib.hid hb9
        clear hb9
        go_wp2_with fail
        exact HFin.out w9 (HBr.out.trans (HB9.out.mono HBr.out.size)) (HMr.out.keeps (Keeps.of_below (S := fun _ => False) HB9.out) (fun _ _ _ h => h)) _ rfl
end Go.Proofs.Ytehedllcdpjebaa
/- The script that comes in. Own work. -/
namespace Go.Proofs.Ytehedllcdpjebaa
open Go.RowKit Go.ChangeShapes Go.WideShapes Go.Proofs.Ytehedllcdpjebaa.Sp
theorem five_is {α : Type} {cs : List α} {x0 x1 x2 x3 x4 : α} (h : cs.length = 5) (h0 : (cs.drop 0).take 1 = [x0]) (h1 : (cs.drop 1).take 1 = [x1]) (h2 : (cs.drop 2).take 1 = [x2]) (h3 : (cs.drop 3).take 1 = [x3]) (h4 : (cs.drop 4).take 1 = [x4]) : cs = [x0, x1, x2, x3, x4] := by
  match cs, h with
  | [a, b, c, d, e], _ => simp_all
section
variable {H : Type} {enc : TypeId × Value → H} {W : World} {base : Nat} {held : Bool}
set_option maxRecDepth 100000 in
theorem oslice_place {r : Reach} {b : Nat} {a : Addr} {len cap : Nat} (h : Cell.okWide Try.prog W r b 38 (.slice (some a) len cap)) : a.spot = none ∧ a.block < W.heap.size := by
  simp only [Cell.okWide, Cell.ok, Try.underlying38, World.has] at h
  obtain ⟨_, _, _, h1, row, cells, h2, _⟩ := h
  refine ⟨h1, ?_⟩
  unfold World.shape? at h2
  by_cases hlt : a.block < W.heap.size
  · exact hlt
  · rw [Array.getElem?_eq_none (by omega)] at h2
    simp at h2
theorem op1_opened {fuel : Nat} {cs : List Value} {x : DataW H × List MemPlace} (h : DataW.trod enc Try.prog W base (fun _ => true) held fuel 43 cs = some x) :
    ∃ y : Op5, cs = [.int .i64 y.1, .int .u64 (y.2.1 : Int), .int .u64 (y.2.2.1 : Int), .int .u64 (y.2.2.2.1 : Int), .int .i64 y.2.2.2.2] ∧ y.2.1 ≤ 18446744073709551615 ∧ y.2.2.1 ≤ 18446744073709551615 ∧ y.2.2.2.1 ≤ 18446744073709551615 := by
  obtain ⟨xs, n, _, _, hl, hlen, hf⟩ := DataW.trod_struct Try.underlying43 h
  have hlen2 : xs.length = 5 := hlen
  obtain ⟨y0, e0⟩ : ∃ y, xs[0]? = some y := ⟨xs[0], List.getElem?_eq_getElem (by omega)⟩
  obtain ⟨y1, e1⟩ : ∃ y, xs[1]? = some y := ⟨xs[1], List.getElem?_eq_getElem (by omega)⟩
  obtain ⟨y2, e2⟩ : ∃ y, xs[2]? = some y := ⟨xs[2], List.getElem?_eq_getElem (by omega)⟩
  obtain ⟨y3, e3⟩ : ∃ y, xs[3]? = some y := ⟨xs[3], List.getElem?_eq_getElem (by omega)⟩
  obtain ⟨y4, e4⟩ : ∃ y, xs[4]? = some y := ⟨xs[4], List.getElem?_eq_getElem (by omega)⟩
  obtain ⟨a, ha, _, wa⟩ := DataW.trod_int Try.underlying3 ((hf 0 _ rfl).trans e0)
  obtain ⟨b, hb, _, wb⟩ := DataW.trod_int Try.underlying24 ((hf 1 _ rfl).trans e1)
  obtain ⟨c, hc, _, wc⟩ := DataW.trod_int Try.underlying24 ((hf 2 _ rfl).trans e2)
  obtain ⟨d, hd, _, wd⟩ := DataW.trod_int Try.underlying24 ((hf 3 _ rfl).trans e3)
  obtain ⟨e, he, _, we⟩ := DataW.trod_int Try.underlying3 ((hf 4 _ rfl).trans e4)
  have c6 : Try.prog.cellsOf 24 = 1 := by kernel_rfl
  have c3 : Try.prog.cellsOf 3 = 1 := by kernel_rfl
  have cS : Try.prog.cellsOf 43 = 5 := by kernel_rfl
  change List.take (Try.prog.cellsOf 3) (List.drop 0 cs) = _ at ha
  change List.take (Try.prog.cellsOf 24) (List.drop 1 cs) = _ at hb
  change List.take (Try.prog.cellsOf 24) (List.drop 2 cs) = _ at hc
  change List.take (Try.prog.cellsOf 24) (List.drop 3 cs) = _ at hd
  change List.take (Try.prog.cellsOf 3) (List.drop 4 cs) = _ at he
  rw [c6] at hb hc hd
  rw [c3] at ha he
  have bb := u64_in wb
  have bc := u64_in wc
  have bd := u64_in wd
  obtain ⟨b, rfl⟩ : ∃ n : Nat, b = (n : Int) := ⟨b.toNat, by omega⟩
  obtain ⟨c, rfl⟩ : ∃ n : Nat, c = (n : Int) := ⟨c.toNat, by omega⟩
  obtain ⟨d, rfl⟩ : ∃ n : Nat, d = (n : Int) := ⟨d.toNat, by omega⟩
  exact ⟨(a, b, c, d, e), five_is (by rw [hl, cS]) ha hb hc hd he, by dsimp only; omega, by dsimp only; omega, by dsimp only; omega⟩
set_option maxRecDepth 100000 in
theorem ops_opened {fuel : Nat} {cs : List Value} {x : DataW H × List MemPlace} (hok : ∀ v, cs = [v] → ∃ (r : Reach) (b : Nat), Cell.okWide Try.prog W r b 38 v) (h : DataW.trod enc Try.prog W base (fun _ => true) held fuel 38 cs = some x) : ∃ v os, cs = [v] ∧ OpsAt W.heap.size W v os ∧ ∀ o ∈ os, o.2.1 ≤ 18446744073709551615 ∧ o.2.2.1 ≤ 18446744073709551615 ∧ o.2.2.2.1 ≤ 18446744073709551615 := by
  rcases Go.Deep.open_slice Try.underlying38 h with ⟨rfl, _⟩ | ⟨a, len, cap, m, n, D, Pl, rfl, _, hl, hm, hmm, rfl, hx⟩
  · exact ⟨_, [], rfl, ⟨none, 0, rfl, Nat.le_refl _, Nat.zero_le _, fun j h => by simp at h⟩, fun _ h => (by cases h)⟩
  · have cS : Try.prog.cellsOf 43 = 5 := by kernel_rfl
    rw [cS] at hx
    have hmc : m = cap := by simpa using hmm
    obtain ⟨r, b0, hc0⟩ := hok _ rfl
    obtain ⟨hsp, hlt⟩ := oslice_place hc0
    haveI : Inhabited Op5 := ⟨(0, 0, 0, 0, 0)⟩
    obtain ⟨F, hF⟩ := Go.Deep.choose_lt (α := Op5) (n := len) (p := fun i y => (y.2.1 ≤ 18446744073709551615 ∧ y.2.2.1 ≤ 18446744073709551615 ∧ y.2.2.2.1 ≤ 18446744073709551615) ∧ ∀ j v, ([.int .i64 y.1, .int .u64 (y.2.1 : Int), .int .u64 (y.2.2.1 : Int), .int .u64 (y.2.2.2.1 : Int), .int .i64 y.2.2.2.2] : List Value)[j]? = some v → W.cell? ((a.add (i * 5)).add j) = some v) (fun i hi => by
      obtain ⟨cs', h1, h2⟩ := hx i (by omega)
      obtain ⟨y, rfl, hb⟩ := op1_opened h2
      obtain ⟨_, _, hc⟩ := World.cells?_some h1
      refine ⟨y, hb, fun j v hj => ?_⟩
      rw [hc j (by have := (List.getElem?_eq_some_iff.1 hj).1; simpa using this)]
      exact hj)
    obtain ⟨b, o, sp⟩ := a
    simp only at hsp hlt
    subst hsp
    refine ⟨_, (List.range len).map F, rfl, ⟨some ⟨b, o, none⟩, cap, by simp, by simpa using hl, hm, fun i hi => ?_⟩, fun y hy => ?_⟩
    · have hi' : i < len := by simpa using hi
      obtain ⟨_, hc⟩ := hF i hi'
      have hget : ((List.range len).map F)[i] = F i := by simp
      rw [hget]
      simp only [Go.WideShapes.add_plain] at hc
      exact ⟨b, o, rfl, hlt, hc 0 _ rfl, hc 1 _ rfl, hc 2 _ rfl, hc 3 _ rfl, hc 4 _ rfl⟩
    · obtain ⟨i, hi, rfl⟩ := List.mem_map.1 hy
      exact (hF i (by simpa using hi)).1
end
end Go.Proofs.Ytehedllcdpjebaa
/- WalkEnds: its row, by the guide's shell. -/
namespace Go.Proofs.Ytehedllcdpjebaa.walkEnds
open Go.ChangeShapes Go.WideShapes Go.ChangeAt Go.RowKit
open Go.ChangeMaps (open_string shut_string)
set_option linter.unusedVariables false

theorem own : ownKnob Try.prog.godebug = none := by kernel_rfl
theorem laidOut : laidOutB Try.prog = true := by kernel_rfl

set_option maxRecDepth 100000 in
theorem lifted (os : Os) (started : os.Started) (H : Type) (enc : TypeId × Value → H) :
    ReturnsInHanded {} Try.checked os 4 .any (Rows.walkEndsSpec.pre6 enc Try.prog Try.f4 Rows.walkEndsRow.domain false) (Rows.walkEndsSpec.post enc Try.prog Try.f4 false true false false) := by
  refine returnsInHanded_of_change (C := Try.checked) own started (by kernel_rfl) Try.func4
    (ChangeSpec.witness6 (enc := enc) (C := Try.checked) false ⟨#[], #[.slice none 0 0, .slice none 0 0], []⟩ 8 (by kernel_rfl) (by kernel_rfl) (by kernel_rfl) (by kernel_rfl)) ?_
  intro W base args ds gs before hval0 hW hcnd _
  have hval : ∀ (j : Nat) t v, Try.f4.params[j]? = some t → args[j]? = some v → Value.okWide Try.prog W .any base t v := hval0
  have hW' := hW
  obtain ⟨p, q, hA0, hV, rfl, hfz, hnd⟩ := hW
  have hA : DataW.TrodAll enc Try.prog W 0 (fun _ => true) true Try.f4.params.toList args.toList ds p := hA0
  rw [Try.params4] at hA hval
  obtain ⟨v0, vs0, d0, ds0, p0, q0, hargs, rfl, rfl, h0, r0⟩ := trodAll_cons hA
  obtain ⟨v1, vs1, d1, ds1, p1, q1, rfl, rfl, rfl, h1, r1⟩ := trodAll_cons r0
  obtain ⟨rfl, rfl, rfl⟩ := trodAll_nil r1
  obtain rfl : args = #[v0, v1] := by cases args; simp_all
  obtain ⟨rfl, rfl⟩ := trodVars_none hV
  obtain ⟨a0, len0, cap0, rfl⟩ := okWide_slice Try.underlying37 (hval 0 37 v0 rfl rfl)
  obtain ⟨a1, len1, cap1, rfl⟩ := okWide_slice Try.underlying38 (hval 1 38 v1 rfl rfl)
  have k0 := h0
  have k1 := h1
  have lt0 : ∀ x ∈ p0, x.block < W.heap.size := by obtain ⟨m, hm⟩ := k0; exact DataW.trod_lt m _ _ _ hm
  have lt1 : ∀ x ∈ p1, x.block < W.heap.size := by obtain ⟨m, hm⟩ := k1; exact DataW.trod_lt m _ _ _ hm
  obtain ⟨ws, hx, fx⟩ : ∃ ws, U64.SV W (.slice a0 len0 cap0) ws ∧ Sp.Fits 18446744073709551615 ws := by
    obtain ⟨fuel, hf⟩ := h0
    obtain ⟨v, xs, e, hx, fx, hlen⟩ := wds_opened (fun v e => by
      have hv := hval 0 37 (.slice a0 len0 cap0) rfl rfl
      simp [Value.cells] at e
      subst e
      refine ⟨.any, base, ?_⟩
      simp only [Value.okWide, Try.underlying37] at hv
      exact hv) hf
    simp [Value.cells] at e
    subst e
    exact ⟨xs, hx, fx⟩
  obtain ⟨os, ho, fo⟩ : ∃ os, OpsAt W.heap.size W (.slice a1 len1 cap1) os ∧ ∀ o ∈ os, o.2.1 ≤ 18446744073709551615 ∧ o.2.2.1 ≤ 18446744073709551615 ∧ o.2.2.2.1 ≤ 18446744073709551615 := by
    obtain ⟨fuel, hf⟩ := h1
    obtain ⟨v, os, e, ho, fo⟩ := ops_opened (fun v e => by
      have hv := hval 1 38 (.slice a1 len1 cap1) rfl rfl
      simp [Value.cells] at e
      subst e
      refine ⟨.any, base, ?_⟩
      simp only [Value.okWide, Try.underlying38] at hv
      exact hv) hf
    simp [Value.cells] at e
    subst e
    exact ⟨os, ho, fo⟩
  have hp : ∀ a n c, Value.slice a0 len0 cap0 = .slice (some a) n c → a.block < W.heap.size := by
    intro a n c e
    obtain ⟨ao, cap, e2, _, _, _, g4, _⟩ := hx
    rw [e2] at e
    cases e
    obtain ⟨g, off, rfl, hg⟩ := g4 _ rfl
    exact hg
  clear hA0 hval0
  refine (ends_walk hx (fun x hxm => fx x hxm) hp ho fo).mono fun e W' ⟨he, bel⟩ => ?_
  subst he
  exact ⟨_, rfl, _, _, _, [], _, [], hW', trodAll_mk1 (shut_bool Try.underlying4 _), (trodAll_cons_mk (Below.trod laidOut (by kernel_rfl) (of_decide_eq_true (by kernel_rfl)) k0 bel lt0) (trodAll_cons_mk (Below.trod laidOut (by kernel_rfl) (of_decide_eq_true (by kernel_rfl)) k1 bel lt1) trodAll_mk0)), rfl, bel.frame _, fun h => by cases h⟩

theorem over : Rows.walkEndsRow.holds Try.pinned (OpenSpec.ofChange Rows.walkEndsSpec) :=
  OpenClaim.holds_of_wide 4 Try.f4 rfl rfl rfl rfl rfl rfl rfl ⟨rfl, rfl, rfl, rfl, rfl⟩ rfl rfl rfl rfl rfl (by kernel_rfl) Try.func4 (by kernel_rfl)
    (of_decide_eq_true (by kernel_rfl)) (by unfold Func.isWrapper; first | (rw [if_pos (by decide +kernel)]; kernel_rfl) | (rw [if_neg (by decide +kernel)]; exact ⟨rfl, rfl⟩))
    (fun os started H enc _ => lifted os started H enc)

theorem proved : Rows.WalkEndsSaid :=
  over
#print axioms proved
end Go.Proofs.Ytehedllcdpjebaa.walkEnds
