import Derived.Test.YtmkibolkcjallaaGreatDoorPkA
import Derived.Test.YtmkibolkcjallaaGreatDoorSyParA
import Derived.Test.YtmkibolkcjallaaGreatDoorSyKnown
/- Parse of the text with one const. Own work. -/
namespace Go.Proofs.YtmkibolkcjallaaGreatDoor
open Go.RowKit Sc
theorem OwnN.cells {w : World} {base : Nat} {v : Value} {ns : List Nd} (h : OwnN w base v ns) (hp : 0 < ns.length) : ∃ gn nc, v = .slice (some ⟨gn, 0, none⟩) ns.length nc ∧ base ≤ gn ∧ gn < w.heap.size ∧ ∀ j i, (hj : j < ns.length) → i < 5 → w.cell? ⟨gn, j * 5 + i, none⟩ = (encN ns[j])[i]? := by
  rcases h.2 with ⟨_, h0⟩ | ⟨g, cap, cur, rfl, hb, hg, hnc, hcm, hcs, ht⟩
  · omega
  · refine ⟨g, cap, rfl, hb, (Array.getElem?_eq_some_iff.1 hg).1, fun j i hj hi => ?_⟩
    rw [cell_of_row w g _ _ _ _ hg, ← Array.getElem?_toList, ← encNs_get ns j i hj hi, ← ht, List.getElem?_take_of_lt (by omega)]
/-- the tree's rows -/
structure TrC (w : World) (n gi gn kb kc : Nat) : Prop where
  n0 : w.cell? ⟨gn, 15, none⟩ = some (.int .i64 27)
  n1 : w.cell? ⟨gn, 16, none⟩ = some (.int .u64 0)
  n2 : w.cell? ⟨gn, 17, none⟩ = some (.string ⟨#[]⟩)
  n3 : w.cell? ⟨gn, 18, none⟩ = some (.slice (some ⟨kb, 0, none⟩) 2 2)
  n4 : w.cell? ⟨gn, 19, none⟩ = some (.int .i64 27)
  m3 : w.cell? ⟨gn, 23, none⟩ = some (.slice (some ⟨kc, 0, none⟩) 2 2)
  k0 : w.cell? ⟨kb, 0, none⟩ = some (.int .i64 1)
  k1 : w.cell? ⟨kb, 1, none⟩ = some (.int .i64 2)
  l1 : w.cell? ⟨kc, 1, none⟩ = some (.int .i64 3)
  i0 : w.cell? ⟨gi, 0, none⟩ = some (.int .i64 1)
  i1 : w.cell? ⟨gi, 1, none⟩ = some (.int .i64 11)
theorem TrC.keeps {w w' : World} {n gi gn kb kc : Nat} {S : Nat → Prop} (h : TrC w n gi gn kb kc) (k : Keeps S w w') (h1 : ¬ S gi) (h2 : ¬ S gn) (h3 : ¬ S kb) (h4 : ¬ S kc) : TrC w' n gi gn kb kc := by
  have c : ∀ g i v, ¬ S g → w.cell? ⟨g, i, none⟩ = some v → w'.cell? ⟨g, i, none⟩ = some v := fun g i v hs hc => (World.cell?_of_block (a := ⟨g, i, none⟩) (k.block g (World.block_lt_of_cell? w _ hc) hs)).trans hc
  exact ⟨c _ _ _ h2 h.n0, c _ _ _ h2 h.n1, c _ _ _ h2 h.n2, c _ _ _ h2 h.n3, c _ _ _ h2 h.n4, c _ _ _ h2 h.m3, c _ _ _ h3 h.k0, c _ _ _ h3 h.k1, c _ _ _ h4 h.l1, c _ _ _ h1 h.i0, c _ _ _ h1 h.i1⟩
theorem Kd.off {w : World} {pb : Nat} {p : Par} {kb h : Nat} {x y : Int} {v : Value} (k : Kd w pb p kb x y) (b : Bx h w v) (hy : y ≠ 0) : ¬ (kb = h + 1 ∨ kb = h + 1 + 1 ∨ kb = h + 1 + 1 + 1) := by
  have c1 := k.c1
  rintro (e | e | e) <;> subst e
  · rw [cell_of_row _ _ 1 _ _ _ b.tree] at c1; simp at c1
  · rw [cell_of_row _ _ 1 _ _ _ b.place] at c1; simp at c1; exact hy c1.symm
  · rw [cell_of_row _ _ 1 _ _ _ b.why] at c1; simp at c1
theorem keeps_setRow (b : Nat) (c : Array Value) (w : World) : Keeps (fun k => k = b) w (w.setRow b c) := ⟨rfl, rfl, rfl, by simp [World.setRow], fun k _ hk => setRow_heap hk c⟩
def treeC (gi ic gn nc : Nat) (va : Option Addr) (vc : Nat) : Array Value := #[.int .i64 0, .string ⟨#[115]⟩, .int .i64 7, .slice none 0 0, .slice (some ⟨gi, 0, none⟩) 1 ic, .slice (some ⟨gn, 0, none⟩) 5 nc, .slice va 1 vc]
set_option maxRecDepth 100000 in
set_option maxHeartbeats 4000000 in
theorem parse_C {w : World} {b o cap : Nat} (ht : Tabs w) (hs : Sl w (.slice (some ⟨b, o, none⟩) 34 cap) zsC) (hcap : 34 ≤ cap) (hb : b < w.heap.size) (h9 : 4 ≤ w.heap.size) :
    Calls Tryz.prog 5 #[.slice (some ⟨b, o, none⟩) 34 cap] w fun e w' => ∃ gi ic gn nc va vc kb kc, e = .returned (.tuple #[.agg (treeC gi ic gn nc va vc), .agg placeA, .int .i64 0]) ∧ Below w.heap.size w w' ∧ TrC w' 0 gi gn kb kc := by
  have hmf : ∀ (fn : Fn) (first cap : Array Value) (w : World), (Instr.makeFunc fn first cap).run Tryz.prog w = .ok (.func fn first cap) w := fun _ _ _ _ => rfl
  go_enter_defers Tryz.func5, Tryz.ntmps5
  go_wp2_with fail
  have HX4 := Lib.hid (Bx.start w (Value.slice (some ⟨b, o, none⟩) 34 cap))
  obtain ⟨W4, hW4⟩ : ∃ W4, (((w.alloc (Obj.cells #[Value.slice (some ⟨b, o, none⟩) 34 cap] 34)).alloc (Obj.cells #[Value.int IntKind.i64 0, Value.string ⟨#[]⟩, Value.int IntKind.i64 0, Value.slice none 0 0, Value.slice none 0 0, Value.slice none 0 0, Value.slice none 0 0] 28)).alloc (Obj.cells #[Value.int IntKind.i64 0, Value.int IntKind.i64 0, Value.int IntKind.i64 0] 30)).alloc (Obj.cells #[Value.int IntKind.i64 0] 31) = W4 := ⟨_, rfl⟩
  have HB4 : Hid (Below w.heap.size w W4) := hW4 ▸ ((((Below.refl _ _).alloc (Nat.le_refl _) _).alloc (by simp) _).alloc (by simp; omega) _).alloc (by simp; omega) _
  have HZ4 : Hid (W4.heap.size = w.heap.size + 4) := show W4.heap.size = w.heap.size + 4 by rw [← hW4]; simp
  rw [hW4] at HX4 ⊢
  refine (ahead_ok (ht.below HB4.out) (hs.below HB4.out) (fun k hk => by cases hk; exact Nat.lt_of_lt_of_le hb HB4.out.size) (Nat.le_trans h9 HB4.out.size) (by rw [tokens_C])).mono ?_
  rintro e w5 ⟨lv, rfl, hT5, hb5⟩
  rw [tokens_C] at hT5
  obtain ⟨ga, lc, rfl, hlc, hga, htk⟩ := tkc_of hT5 (by decide)
  have HTk := Lib.hid htk
  have HB5 : Hid (Below w.heap.size w w5) := HB4.out.trans (hb5.mono HB4.out.size)
  have HX5 : Hid (Bx w.heap.size w5 (Value.slice (some ⟨b, o, none⟩) 34 cap)) := HX4.out.below hb5
  have HSl5 : Hid (Sl w5 (.slice (some ⟨b, o, none⟩) 34 cap) zsC) := hs.below HB5.out
  have HZ5 : Hid (w.heap.size + 4 ≤ w5.heap.size) := HZ4.out ▸ hb5.size
  have HLc : Hid (tsC.length ≤ lc) := hlc
  clear hT5 hb5 hW4 htk HX4 HB4 hlc hs ht
  rw [show tsC.length = 13 from rfl, show ((zsC.length : Nat) : Int) = 34 from rfl]
  go_wp2_with (first | (refine wpList_buildP (a := some ⟨b, o, none⟩) (b := some ⟨ga, 0, none⟩) (n := 34) (m := 13) (c := cap) (d := lc) (k := 34) (by rfl) (.tmp 13) (by rfl) (by rfl) ?_) | (refine wpList_storeP (a := some ⟨b, o, none⟩) (b := some ⟨ga, 0, none⟩) (n := 34) (m := 13) (c := cap) (d := lc) (k := 34) (by rfl) (by rfl) (.tmp 5) (.tmp 14) (by rfl) (by rfl) (by rfl) (by rfl) ?_))
  have HR6 : Hid (Rt (w5.alloc (.cells (par0 (.slice (some ⟨b, o, none⟩) 34 cap) (.slice (some ⟨ga, 0, none⟩) 13 lc) 34).cells 52)) w5.heap.size (w5.heap.size + 1) b o cap ga lc zsC tsC 0 (par0 (.slice (some ⟨b, o, none⟩) 34 cap) (.slice (some ⟨ga, 0, none⟩) 13 lc) 34) []) := Rt.start (zs := zsC) HSl5.out hcap HTk.out (by decide) HLc.out (Nat.lt_of_lt_of_le hb HB5.out.size)
  have HX6 : Hid (Bx w.heap.size (w5.alloc (.cells (par0 (.slice (some ⟨b, o, none⟩) 34 cap) (.slice (some ⟨ga, 0, none⟩) 13 lc) 34).cells 52)) (Value.slice (some ⟨b, o, none⟩) 34 cap)) := HX5.out.below ((Below.refl _ _).alloc (Nat.le_refl _) _)
  have HB6 : Hid (Below w.heap.size w (w5.alloc (.cells (par0 (.slice (some ⟨b, o, none⟩) 34 cap) (.slice (some ⟨ga, 0, none⟩) 13 lc) 34).cells 52))) := HB5.out.alloc HB5.out.size _
  refine (policy_C (b := b) (o := o) (cap := cap) (g := ga) (lc := lc) ⟨HR6.out, OwnN.nil _ _⟩ rfl rfl rfl rfl rfl).mono ?_
  rintro e w7 ⟨rfl, par', ns', gi, ic, va, vc, hT, e1, e2, e3, e4, e7, hm7⟩
  obtain ⟨kb, kc, rfl, hk1, hk2⟩ := hT.kids
  obtain ⟨gn, nc, e6, hgn, hgl, hcells⟩ := hT.nd.cells (show 0 < 5 by decide)
  have hX7 : Bx w.heap.size w7 (Value.slice (some ⟨b, o, none⟩) 34 cap) := by
    have l := fun {i : Nat} {x : Obj} (hi : i < w.heap.size + 4) (e : (w5.alloc (.cells (par0 (.slice (some ⟨b, o, none⟩) 34 cap) (.slice (some ⟨ga, 0, none⟩) 13 lc) 34).cells 52)).heap[i]? = some x) => (hm7.block i (Array.getElem?_eq_some_iff.1 e).1 (fun hh => by have := HZ5.out; rcases hh with hh | hh <;> omega)).trans e
    exact ⟨l (by omega) HX6.out.src, l (by omega) HX6.out.tree, l (by omega) HX6.out.place, l (by omega) HX6.out.why⟩
  have HX7 := Lib.hid hX7
  have HB7 : Hid (Below w.heap.size w w7) := HB6.out.trans (hm7.below HB6.out.size (fun i _ hi => by have := HZ5.out; rcases hi with rfl | hi <;> omega))
  have HTc : Hid (TrC w7 0 gi gn kb kc) := ⟨hcells 3 0 (show 3 < 5 by decide) (by omega), hcells 3 1 (show 3 < 5 by decide) (by omega), hcells 3 2 (show 3 < 5 by decide) (by omega), hcells 3 3 (show 3 < 5 by decide) (by omega), hcells 3 4 (show 3 < 5 by decide) (by omega), hcells 4 3 (show 4 < 5 by decide) (by omega), hk1.c0, hk1.c1, hk2.c1, hT.item.c0, hT.item.c1⟩
  have HOff : Hid (¬ (gi = w.heap.size + 1 ∨ gi = w.heap.size + 1 + 1 ∨ gi = w.heap.size + 1 + 1 + 1) ∧ ¬ (gn = w.heap.size + 1 ∨ gn = w.heap.size + 1 + 1 ∨ gn = w.heap.size + 1 + 1 + 1) ∧ ¬ (kb = w.heap.size + 1 ∨ kb = w.heap.size + 1 + 1 ∨ kb = w.heap.size + 1 + 1 + 1) ∧ ¬ (kc = w.heap.size + 1 ∨ kc = w.heap.size + 1 + 1 ∨ kc = w.heap.size + 1 + 1 + 1)) := ⟨hT.item.off hX7 (by decide), by have := HZ5.out; omega, hk1.off hX7 (by decide), hk2.off hX7 (by decide)⟩
  have d14 := hT.parB.cell 14 (v := .int .i64 par'.pos) rfl
  have d15 := hT.parB.cell 15 (v := .string par'.word) rfl
  have d16 := hT.parB.cell 16 (v := .int .i64 par'.wat) rfl
  have d17 := hT.parB.cell 17 (v := par'.index) rfl
  have d18 := hT.parB.cell 18 (v := par'.top) rfl
  have d19 := hT.parB.cell 19 (v := par'.items) rfl
  have d20 := hT.parB.cell 20 (v := par'.nodes) rfl
  rw [e1] at d14
  rw [e2] at d15
  rw [e3] at d16
  rw [e4] at d17
  rw [hT.top] at d18
  rw [e6] at d19
  rw [e7] at d20
  change w7.cell? _ = some (.slice (some ⟨gn, 0, none⟩) 5 nc) at d19
  clear hX7 hT e1 e2 e3 e4 e6 e7 hm7 hk1 hk2 hcells HR6 HX6 HB6 HX5 HB5 HTk HSl5
  have HX8 : Hid ((w7.setRow (w.heap.size + 1) (treeC gi ic gn nc va vc)).heap[w.heap.size + 1 + 1]? = some (.cells #[.int .i64 0, .int .i64 0, .int .i64 0] 30 (0, 0))) := (setRow_heap (by omega) _).trans HX7.out.place
  have hx9 : ((w7.setRow (w.heap.size + 1) (treeC gi ic gn nc va vc)).setRow (w.heap.size + 1 + 1) placeA).heap[w.heap.size + 1 + 1 + 1]? = some (.cells #[.int .i64 0] 31 (0, 0)) := (setRow_heap (by omega) _).trans ((setRow_heap (by omega) _).trans HX7.out.why)
  have c9 := box_cell hx9
  have z9 : ((w7.setRow (w.heap.size + 1) (treeC gi ic gn nc va vc)).setRow (w.heap.size + 1 + 1) placeA).frozen? ⟨w.heap.size + 1 + 1 + 1, 0, none⟩ = false := by simp [World.frozen?, hx9]
  have HX9 := Lib.hid hx9
  clear hx9
  go_wp2_with (first | (refine wpList_storeRow (b := w.heap.size + 1) (c' := (treeC gi ic gn nc va vc)) (by rfl) (by rfl) (.tmp 2) (.tmp 18) (by rfl) (by rfl) (by rfl) (by exact HX7.out.tree) (by kernel_rfl) (by rfl) (by kernel_rfl) ?_) | (refine wpList_storeRow (b := w.heap.size + 1 + 1) (c' := placeA) (by rfl) (by rfl) (.tmp 3) (.tmp 19) (by rfl) (by rfl) (by rfl) (by exact HX8.out) (by kernel_rfl) (by rfl) (by kernel_rfl) ?_))
  obtain ⟨W9, hW9⟩ : ∃ W9, ((w7.setRow (w.heap.size + 1) (treeC gi ic gn nc va vc)).setRow (w.heap.size + 1 + 1) placeA).setCell ⟨w.heap.size + 1 + 1 + 1, 0, none⟩ (.int .i64 0) = W9 := ⟨_, rfl⟩
  have HB9 : Hid (Below w.heap.size w W9) := hW9 ▸ (below_setRow (below_setRow HB7.out (by omega) _) (by omega) _).setCell (p := ⟨w.heap.size + 1 + 1 + 1, 0, none⟩) (by show w.heap.size ≤ w.heap.size + 1 + 1 + 1; omega) _
  have HT9 : Hid (TrC W9 0 gi gn kb kc) := by
    rw [← hW9]
    have k1 : Keeps (fun k => k = w.heap.size + 1 ∨ k = w.heap.size + 1 + 1 ∨ k = w.heap.size + 1 + 1 + 1) w7 (((w7.setRow (w.heap.size + 1) (treeC gi ic gn nc va vc)).setRow (w.heap.size + 1 + 1) placeA).setCell ⟨w.heap.size + 1 + 1 + 1, 0, none⟩ (.int .i64 0)) :=
      (((keeps_setRow _ _ _).mono (fun _ _ e => .inl e)).trans (keeps_setRow _ _ _) (fun _ _ e => .inr (.inl e))).trans (Keeps.setCell _ _ _ _) (fun _ _ e => .inr (.inr e))
    exact HTc.out.keeps k1 HOff.out.1 HOff.out.2.1 HOff.out.2.2.1 HOff.out.2.2.2
  have t1 : W9.heap[w.heap.size + 1]? = some (.cells (treeC gi ic gn nc va vc) 28 (0, 0)) := by
    rw [← hW9]
    exact (Below.heap_setCell _ _ _ _ (by show w.heap.size + 1 ≠ w.heap.size + 1 + 1 + 1; omega)).trans ((setRow_heap (by omega) _).trans (setRow_same HX7.out.tree))
  have t2 : W9.heap[w.heap.size + 1 + 1]? = some (.cells placeA 30 (0, 0)) := by
    rw [← hW9]
    exact (Below.heap_setCell _ _ _ _ (by show w.heap.size + 1 + 1 ≠ w.heap.size + 1 + 1 + 1; omega)).trans (setRow_same HX8.out)
  have t3 : W9.cell? ⟨w.heap.size + 1 + 1 + 1, 0, none⟩ = some (.int .i64 0) := by
    rw [← hW9]
    exact World.cell?_setCell_same' _ ⟨w.heap.size + 1 + 1 + 1, 0, none⟩ _ (by rw [c9]; rfl)
  rw [hW9]
  have l1 : (loadVar 28 ⟨w.heap.size + 1, 0, none⟩).run Tryz.prog W9 = .ok (.agg (treeC gi ic gn nc va vc)) W9 := run_loadVar_row _ _ _ _ _ _ _ t1 Tryz.underlying28 rfl (by kernel_rfl)
  have l2 : (loadVar 30 ⟨w.heap.size + 1 + 1, 0, none⟩).run Tryz.prog W9 = .ok (.agg placeA) W9 := run_loadVar_row _ _ _ _ _ _ _ t2 Tryz.underlying30 rfl (by kernel_rfl)
  refine leaves_cons (f := 10) (args := #[.pointer (some ⟨w.heap.size, 0, none⟩), .pointer (some ⟨w5.heap.size, 0, none⟩), .pointer (some ⟨w.heap.size + 1, 0, none⟩), .pointer (some ⟨w.heap.size + 1 + 1, 0, none⟩), .pointer (some ⟨w.heap.size + 1 + 1 + 1, 0, none⟩)]) (by simp) (by simp [go_sem]) ?_
  refine (catch_idle _).mono ?_
  rintro e u' w'' ⟨rfl, rfl, rfl⟩
  have l3 : (loadVar 31 ⟨w.heap.size + 1 + 1 + 1, 0, none⟩).run Tryz.prog w'' = .ok (.int .i64 0) w'' := by simp [go_sem, t3]
  exact ⟨_, results_cells3 (p1 := 2) (p2 := 3) (p3 := 4) rfl rfl rfl rfl l1 l2 l3, gi, ic, gn, nc, va, vc, kb, kc, rfl, HB9.out, HT9.out⟩
end Go.Proofs.YtmkibolkcjallaaGreatDoor
/- SyntaxNames: the walk (written by parts/gen_names6.py). Own work. -/
namespace Go.Proofs.YtmkibolkcjallaaGreatDoor
open Go.RowKit Sc
set_option maxRecDepth 100000 in
set_option maxHeartbeats 4000000 in
theorem names6_walk {w : World} (ht : Tabs w) (h9 : 4 ≤ w.heap.size) : Calls Tryz.prog 3 #[] w fun e w' => e = .returned (.bool true) ∧ Below w.heap.size w w' := by
  have HT : Hid (Tabs w) := ht
  clear ht
  have hcv := convert_lit w zsC #[.int .u8 115, .int .u8 121, .int .u8 115, .int .u8 116, .int .u8 101, .int .u8 109, .int .u8 32, .int .u8 115, .int .u8 32, .int .u8 123, .int .u8 32, .int .u8 99, .int .u8 111, .int .u8 110, .int .u8 115, .int .u8 116, .int .u8 32, .int .u8 97, .int .u8 32, .int .u8 61, .int .u8 32, .int .u8 49, .int .u8 32, .int .u8 43, .int .u8 32, .int .u8 50, .int .u8 32, .int .u8 42, .int .u8 32, .int .u8 98, .int .u8 32, .int .u8 59, .int .u8 32, .int .u8 125] rfl
  have hb0 : Below w.heap.size w (w.alloc (.cells #[.int .u8 115, .int .u8 121, .int .u8 115, .int .u8 116, .int .u8 101, .int .u8 109, .int .u8 32, .int .u8 115, .int .u8 32, .int .u8 123, .int .u8 32, .int .u8 99, .int .u8 111, .int .u8 110, .int .u8 115, .int .u8 116, .int .u8 32, .int .u8 97, .int .u8 32, .int .u8 61, .int .u8 32, .int .u8 49, .int .u8 32, .int .u8 43, .int .u8 32, .int .u8 50, .int .u8 32, .int .u8 42, .int .u8 32, .int .u8 98, .int .u8 32, .int .u8 59, .int .u8 32, .int .u8 125] 5 (34, 35))) := (Below.refl _ _).alloc (Nat.le_refl _) _
  have HA := Lib.hid (parse_C (HT.out.below hb0) (sl_lit w zsC (34, 35) (by decide) (by decide)) (by decide) (by simp) (Nat.le_trans h9 hb0.size))
  have HB0 := Lib.hid hb0
  simp only [zsC, List.length_cons, List.length_nil] at hcv
  clear hb0
  go_enter Tryz.func3, Tryz.ntmps3
  go_wp2_with fail
  refine HA.out.mono ?_
  rintro e w1 ⟨gi, ic, gn, nc, va, vc, kb, kc, rfl, hb1, tr1⟩
  clear hcv HA
  have HB1 : Hid (Below w.heap.size w w1) := HB0.out.trans (hb1.mono HB0.out.size)
  have hbx : Below w1.heap.size w1 ((w1.alloc (.cells #[.int .i64 0, .string ⟨#[115]⟩, .int .i64 7, .slice none 0 0, .slice (some ⟨gi, 0, none⟩) 1 ic, .slice (some ⟨gn, 0, none⟩) 5 nc, .slice va 1 vc] 28)).alloc (.cells #[.int .i64 0, .int .i64 0, .int .i64 0] 30)) := ((Below.refl _ _).alloc (Nat.le_refl _) _).alloc (by simp) _
  have HB2 : Hid (Below w.heap.size w ((w1.alloc (.cells #[.int .i64 0, .string ⟨#[115]⟩, .int .i64 7, .slice none 0 0, .slice (some ⟨gi, 0, none⟩) 1 ic, .slice (some ⟨gn, 0, none⟩) 5 nc, .slice va 1 vc] 28)).alloc (.cells #[.int .i64 0, .int .i64 0, .int .i64 0] 30))) := HB1.out.trans (hbx.mono HB1.out.size)
  have tr : TrC ((w1.alloc (.cells #[.int .i64 0, .string ⟨#[115]⟩, .int .i64 7, .slice none 0 0, .slice (some ⟨gi, 0, none⟩) 1 ic, .slice (some ⟨gn, 0, none⟩) 5 nc, .slice va 1 vc] 28)).alloc (.cells #[.int .i64 0, .int .i64 0, .int .i64 0] 30)) 0 gi gn kb kc := tr1.keeps (S := fun _ => False) ((Keeps.alloc w1 _).trans (Keeps.alloc _ _) (fun _ _ e => e)) id id id id
  have q1 : ((w1.alloc (.cells #[.int .i64 0, .string ⟨#[115]⟩, .int .i64 7, .slice none 0 0, .slice (some ⟨gi, 0, none⟩) 1 ic, .slice (some ⟨gn, 0, none⟩) 5 nc, .slice va 1 vc] 28)).alloc (.cells #[.int .i64 0, .int .i64 0, .int .i64 0] 30)).heap[w1.heap.size]? = some (.cells #[.int .i64 0, .string ⟨#[115]⟩, .int .i64 7, .slice none 0 0, .slice (some ⟨gi, 0, none⟩) 1 ic, .slice (some ⟨gn, 0, none⟩) 5 nc, .slice va 1 vc] 28 (0, 0)) := alloc2_0 w1 _ _
  have q2 : ((w1.alloc (.cells #[.int .i64 0, .string ⟨#[115]⟩, .int .i64 7, .slice none 0 0, .slice (some ⟨gi, 0, none⟩) 1 ic, .slice (some ⟨gn, 0, none⟩) 5 nc, .slice va 1 vc] 28)).alloc (.cells #[.int .i64 0, .int .i64 0, .int .i64 0] 30)).heap[w1.heap.size + 1]? = some (.cells #[.int .i64 0, .int .i64 0, .int .i64 0] 30 (0, 0)) := alloc2_1 w1 _ _
  have c0 : ((w1.alloc (.cells #[.int .i64 0, .string ⟨#[115]⟩, .int .i64 7, .slice none 0 0, .slice (some ⟨gi, 0, none⟩) 1 ic, .slice (some ⟨gn, 0, none⟩) 5 nc, .slice va 1 vc] 28)).alloc (.cells #[.int .i64 0, .int .i64 0, .int .i64 0] 30)).cell? ⟨w1.heap.size, 0, none⟩ = some (.int .i64 0) := cell_of_row _ _ 0 _ _ _ q1
  have c1 : ((w1.alloc (.cells #[.int .i64 0, .string ⟨#[115]⟩, .int .i64 7, .slice none 0 0, .slice (some ⟨gi, 0, none⟩) 1 ic, .slice (some ⟨gn, 0, none⟩) 5 nc, .slice va 1 vc] 28)).alloc (.cells #[.int .i64 0, .int .i64 0, .int .i64 0] 30)).cell? ⟨w1.heap.size, 1, none⟩ = some (.string ⟨#[115]⟩) := cell_of_row _ _ 1 _ _ _ q1
  have c2 : ((w1.alloc (.cells #[.int .i64 0, .string ⟨#[115]⟩, .int .i64 7, .slice none 0 0, .slice (some ⟨gi, 0, none⟩) 1 ic, .slice (some ⟨gn, 0, none⟩) 5 nc, .slice va 1 vc] 28)).alloc (.cells #[.int .i64 0, .int .i64 0, .int .i64 0] 30)).cell? ⟨w1.heap.size, 2, none⟩ = some (.int .i64 7) := cell_of_row _ _ 2 _ _ _ q1
  have c3 : ((w1.alloc (.cells #[.int .i64 0, .string ⟨#[115]⟩, .int .i64 7, .slice none 0 0, .slice (some ⟨gi, 0, none⟩) 1 ic, .slice (some ⟨gn, 0, none⟩) 5 nc, .slice va 1 vc] 28)).alloc (.cells #[.int .i64 0, .int .i64 0, .int .i64 0] 30)).cell? ⟨w1.heap.size, 3, none⟩ = some (.slice none 0 0) := cell_of_row _ _ 3 _ _ _ q1
  have c4 : ((w1.alloc (.cells #[.int .i64 0, .string ⟨#[115]⟩, .int .i64 7, .slice none 0 0, .slice (some ⟨gi, 0, none⟩) 1 ic, .slice (some ⟨gn, 0, none⟩) 5 nc, .slice va 1 vc] 28)).alloc (.cells #[.int .i64 0, .int .i64 0, .int .i64 0] 30)).cell? ⟨w1.heap.size, 4, none⟩ = some (.slice (some ⟨gi, 0, none⟩) 1 ic) := cell_of_row _ _ 4 _ _ _ q1
  have c5 : ((w1.alloc (.cells #[.int .i64 0, .string ⟨#[115]⟩, .int .i64 7, .slice none 0 0, .slice (some ⟨gi, 0, none⟩) 1 ic, .slice (some ⟨gn, 0, none⟩) 5 nc, .slice va 1 vc] 28)).alloc (.cells #[.int .i64 0, .int .i64 0, .int .i64 0] 30)).cell? ⟨w1.heap.size, 5, none⟩ = some (.slice (some ⟨gn, 0, none⟩) 5 nc) := cell_of_row _ _ 5 _ _ _ q1
  have c6 : ((w1.alloc (.cells #[.int .i64 0, .string ⟨#[115]⟩, .int .i64 7, .slice none 0 0, .slice (some ⟨gi, 0, none⟩) 1 ic, .slice (some ⟨gn, 0, none⟩) 5 nc, .slice va 1 vc] 28)).alloc (.cells #[.int .i64 0, .int .i64 0, .int .i64 0] 30)).cell? ⟨w1.heap.size, 6, none⟩ = some (.slice va 1 vc) := cell_of_row _ _ 6 _ _ _ q1
  have d0 : ((w1.alloc (.cells #[.int .i64 0, .string ⟨#[115]⟩, .int .i64 7, .slice none 0 0, .slice (some ⟨gi, 0, none⟩) 1 ic, .slice (some ⟨gn, 0, none⟩) 5 nc, .slice va 1 vc] 28)).alloc (.cells #[.int .i64 0, .int .i64 0, .int .i64 0] 30)).cell? ⟨w1.heap.size + 1, 0, none⟩ = some (.int .i64 0) := cell_of_row _ _ 0 _ _ _ q2
  have d1 : ((w1.alloc (.cells #[.int .i64 0, .string ⟨#[115]⟩, .int .i64 7, .slice none 0 0, .slice (some ⟨gi, 0, none⟩) 1 ic, .slice (some ⟨gn, 0, none⟩) 5 nc, .slice va 1 vc] 28)).alloc (.cells #[.int .i64 0, .int .i64 0, .int .i64 0] 30)).cell? ⟨w1.heap.size + 1, 1, none⟩ = some (.int .i64 0) := cell_of_row _ _ 1 _ _ _ q2
  have d2 : ((w1.alloc (.cells #[.int .i64 0, .string ⟨#[115]⟩, .int .i64 7, .slice none 0 0, .slice (some ⟨gi, 0, none⟩) 1 ic, .slice (some ⟨gn, 0, none⟩) 5 nc, .slice va 1 vc] 28)).alloc (.cells #[.int .i64 0, .int .i64 0, .int .i64 0] 30)).cell? ⟨w1.heap.size + 1, 2, none⟩ = some (.int .i64 0) := cell_of_row _ _ 2 _ _ _ q2
  have n0 := tr.n0
  have n1 := tr.n1
  have n2 := tr.n2
  have n3 := tr.n3
  have n4 := tr.n4
  have tr3 : TrC (((w1.alloc (.cells #[.int .i64 0, .string ⟨#[115]⟩, .int .i64 7, .slice none 0 0, .slice (some ⟨gi, 0, none⟩) 1 ic, .slice (some ⟨gn, 0, none⟩) 5 nc, .slice va 1 vc] 28)).alloc (.cells #[.int .i64 0, .int .i64 0, .int .i64 0] 30)).alloc (.cells #[.int .i64 27, .int .u64 0, .string ⟨#[]⟩, .slice (some ⟨kb, 0, none⟩) 2 2, .int .i64 27] 37)) 0 gi gn kb kc := tr.keeps (S := fun _ => False) (Keeps.alloc _ _) id id id id
  have HB3 : Hid (Below w.heap.size w (((w1.alloc (.cells #[.int .i64 0, .string ⟨#[115]⟩, .int .i64 7, .slice none 0 0, .slice (some ⟨gi, 0, none⟩) 1 ic, .slice (some ⟨gn, 0, none⟩) 5 nc, .slice va 1 vc] 28)).alloc (.cells #[.int .i64 0, .int .i64 0, .int .i64 0] 30)).alloc (.cells #[.int .i64 27, .int .u64 0, .string ⟨#[]⟩, .slice (some ⟨kb, 0, none⟩) 2 2, .int .i64 27] 37))) := HB2.out.alloc HB2.out.size _
  have e0 : (((w1.alloc (.cells #[.int .i64 0, .string ⟨#[115]⟩, .int .i64 7, .slice none 0 0, .slice (some ⟨gi, 0, none⟩) 1 ic, .slice (some ⟨gn, 0, none⟩) 5 nc, .slice va 1 vc] 28)).alloc (.cells #[.int .i64 0, .int .i64 0, .int .i64 0] 30)).alloc (.cells #[.int .i64 27, .int .u64 0, .string ⟨#[]⟩, .slice (some ⟨kb, 0, none⟩) 2 2, .int .i64 27] 37)).cell? ⟨w1.heap.size, 0, none⟩ = some (.int .i64 0) := (World.cell?_alloc_lt _ _ _ (World.block_lt_of_cell? _ _ c0)).trans c0
  have e1 : (((w1.alloc (.cells #[.int .i64 0, .string ⟨#[115]⟩, .int .i64 7, .slice none 0 0, .slice (some ⟨gi, 0, none⟩) 1 ic, .slice (some ⟨gn, 0, none⟩) 5 nc, .slice va 1 vc] 28)).alloc (.cells #[.int .i64 0, .int .i64 0, .int .i64 0] 30)).alloc (.cells #[.int .i64 27, .int .u64 0, .string ⟨#[]⟩, .slice (some ⟨kb, 0, none⟩) 2 2, .int .i64 27] 37)).cell? ⟨w1.heap.size, 1, none⟩ = some (.string ⟨#[115]⟩) := (World.cell?_alloc_lt _ _ _ (World.block_lt_of_cell? _ _ c1)).trans c1
  have e2 : (((w1.alloc (.cells #[.int .i64 0, .string ⟨#[115]⟩, .int .i64 7, .slice none 0 0, .slice (some ⟨gi, 0, none⟩) 1 ic, .slice (some ⟨gn, 0, none⟩) 5 nc, .slice va 1 vc] 28)).alloc (.cells #[.int .i64 0, .int .i64 0, .int .i64 0] 30)).alloc (.cells #[.int .i64 27, .int .u64 0, .string ⟨#[]⟩, .slice (some ⟨kb, 0, none⟩) 2 2, .int .i64 27] 37)).cell? ⟨w1.heap.size, 2, none⟩ = some (.int .i64 7) := (World.cell?_alloc_lt _ _ _ (World.block_lt_of_cell? _ _ c2)).trans c2
  have e3 : (((w1.alloc (.cells #[.int .i64 0, .string ⟨#[115]⟩, .int .i64 7, .slice none 0 0, .slice (some ⟨gi, 0, none⟩) 1 ic, .slice (some ⟨gn, 0, none⟩) 5 nc, .slice va 1 vc] 28)).alloc (.cells #[.int .i64 0, .int .i64 0, .int .i64 0] 30)).alloc (.cells #[.int .i64 27, .int .u64 0, .string ⟨#[]⟩, .slice (some ⟨kb, 0, none⟩) 2 2, .int .i64 27] 37)).cell? ⟨w1.heap.size, 3, none⟩ = some (.slice none 0 0) := (World.cell?_alloc_lt _ _ _ (World.block_lt_of_cell? _ _ c3)).trans c3
  have e4 : (((w1.alloc (.cells #[.int .i64 0, .string ⟨#[115]⟩, .int .i64 7, .slice none 0 0, .slice (some ⟨gi, 0, none⟩) 1 ic, .slice (some ⟨gn, 0, none⟩) 5 nc, .slice va 1 vc] 28)).alloc (.cells #[.int .i64 0, .int .i64 0, .int .i64 0] 30)).alloc (.cells #[.int .i64 27, .int .u64 0, .string ⟨#[]⟩, .slice (some ⟨kb, 0, none⟩) 2 2, .int .i64 27] 37)).cell? ⟨w1.heap.size, 4, none⟩ = some (.slice (some ⟨gi, 0, none⟩) 1 ic) := (World.cell?_alloc_lt _ _ _ (World.block_lt_of_cell? _ _ c4)).trans c4
  have e5 : (((w1.alloc (.cells #[.int .i64 0, .string ⟨#[115]⟩, .int .i64 7, .slice none 0 0, .slice (some ⟨gi, 0, none⟩) 1 ic, .slice (some ⟨gn, 0, none⟩) 5 nc, .slice va 1 vc] 28)).alloc (.cells #[.int .i64 0, .int .i64 0, .int .i64 0] 30)).alloc (.cells #[.int .i64 27, .int .u64 0, .string ⟨#[]⟩, .slice (some ⟨kb, 0, none⟩) 2 2, .int .i64 27] 37)).cell? ⟨w1.heap.size, 5, none⟩ = some (.slice (some ⟨gn, 0, none⟩) 5 nc) := (World.cell?_alloc_lt _ _ _ (World.block_lt_of_cell? _ _ c5)).trans c5
  have e6 : (((w1.alloc (.cells #[.int .i64 0, .string ⟨#[115]⟩, .int .i64 7, .slice none 0 0, .slice (some ⟨gi, 0, none⟩) 1 ic, .slice (some ⟨gn, 0, none⟩) 5 nc, .slice va 1 vc] 28)).alloc (.cells #[.int .i64 0, .int .i64 0, .int .i64 0] 30)).alloc (.cells #[.int .i64 27, .int .u64 0, .string ⟨#[]⟩, .slice (some ⟨kb, 0, none⟩) 2 2, .int .i64 27] 37)).cell? ⟨w1.heap.size, 6, none⟩ = some (.slice va 1 vc) := (World.cell?_alloc_lt _ _ _ (World.block_lt_of_cell? _ _ c6)).trans c6
  have m3x := tr3.m3
  have k0x := tr3.k0
  have k1x := tr3.k1
  have l1x := tr3.l1
  have i0x := tr3.i0
  have i1x := tr3.i1
  clear q1 q2 tr3 tr tr1 hbx hb1
  unfold treeC placeA
  go_wp2_with fail
  refine (known6_any (HT.out.below HB3.out) (Nat.le_trans h9 HB3.out.size)).mono ?_
  rintro e w4 ⟨rfl, hb4⟩
  have HB4 : Hid (Below w.heap.size w w4) := HB3.out.trans (hb4.mono HB3.out.size)
  clear hb4
  go_wp2_with fail
  go_ret
  exact ⟨rfl, HB4.out⟩
end Go.Proofs.YtmkibolkcjallaaGreatDoor
