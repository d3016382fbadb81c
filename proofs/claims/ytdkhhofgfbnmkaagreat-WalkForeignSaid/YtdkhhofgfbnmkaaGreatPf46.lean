import Derived.Test.YtdkhhofgfbnmkaaGreatPf26
import Derived.Test.YtdkhhofgfbnmkaaGreatPf45
import Derived.Test.YtdkhhofgfbnmkaaGreatPf14
import Derived.Test.YtdkhhofgfbnmkaaGreatPf43
import Derived.Handy
/- Leaves at a root that is none; with none to be told. Own work. -/
namespace Go.Proofs.YtdkhhofgfbnmkaaGreat
open Go.RowKit Go.Shelf Wk Lv
attribute [local go_sem] Oper.semAt_some
set_option maxRecDepth 100000 in
theorem pages_root (w : World) : Calls Tryz.prog 79 #[.int .i64 (-1)] w fun e w' => e = .returned (.int .i64 134217728) ∧ Below w.heap.size w w' := by
  go_enter Tryz.func79, Tryz.ntmps79
  go_wp2_with fail
  refine bodyPost_ret (v := .int .i64 134217728) (by simp [results, Tryz.results79, go_sem]) rfl ⟨rfl, Below.refl _ _⟩
set_option maxRecDepth 100000 in
set_option maxHeartbeats 4000000 in
theorem leaves1_bad {n l0 Bm Bo Br root most : Nat} {T : TypeId} {u : Value} {W : World} {R : World → Prop} {bk : Bool} (hBm : W.cell? ⟨Bm, 0, none⟩ = some (.iface T u)) (hBo : W.cell? ⟨Bo, 0, none⟩ = some (.int .i64 (most : Int))) (hBr : W.cell? ⟨Br, 0, none⟩ = some (.int .u64 (root : Int))) (hroot : root % 4096 ≠ 0) (h1 : 1 ≤ most)
    (hyd : ∀ W', Below W.heap.size W W' → YieldAt Fence.wide (n - 1) Tryz.prog l0 #[.agg #[.int .u64 0, .int .u64 0, .int .i64 134217728, .bool false, .bool false, .bool false], .int .i64 42] W' fun e W'' => e = .returned (.bool bk) ∧ R W'') :
    CallsIn Fence.wide n Tryz.prog 78 #[.func (.yield l0) #[] #[], .pointer (some ⟨Bm, 0, none⟩), .pointer (some ⟨Bo, 0, none⟩), .pointer (some ⟨Br, 0, none⟩)] W fun e W' => (∃ v, e = .returned v) ∧ R W' := by
  have hbm : Bm < W.heap.size := World.block_lt_of_cell? W _ hBm
  have hbo : Bo < W.heap.size := World.block_lt_of_cell? W _ hBo
  have hbr : Br < W.heap.size := World.block_lt_of_cell? W _ hBr
  have HYd := Lib.hid hyd
  clear hyd
  obtain ⟨q, hq⟩ : ∃ q, q = root % 4096 := ⟨_, rfl⟩
  have hq0 : q ≠ 0 := by omega
  have hr : (root : Int).tmod 4096 = (q : Int) := by rw [Int.tmod_eq_emod_of_nonneg (by omega), hq]; omega
  have hr2 : (root : Int) % 4096 = (q : Int) := by omega
  have hqb : ((q : Int) != 0) = true := by simp; omega
  have hqi : ¬ (q : Int) = 0 := by omega
  have hmx : Tryz.prog.follows .mixedOrders = true := by kernel_rfl
  have HPg := Lib.hid pages_root
  clear hq hroot
  refine callsIn_of_wp_marks Tryz.func78 rfl trivial ?_ rfl
  simp only [Tryz.ntmps78, List.size_toArray, List.length_cons, List.length_nil, Nat.reduceAdd, Nat.reduceSub, Array.replicate_succ, Array.replicate_zero, List.push_toArray, List.append_toArray, List.nil_append, List.cons_append]
  gi_wp2
  obtain ⟨W2, hW2⟩ : ∃ W2, W.alloc (Obj.cells #[.func (.yield l0) #[] #[]] 151) = W2 := ⟨_, rfl⟩
  have HB2 := Lib.hid (show Below W.heap.size W W2 from hW2 ▸ (Below.refl _ W).alloc (Nat.le_refl _) _)
  have y0 : W2.cell? ⟨W.heap.size, 0, none⟩ = some (.func (.yield l0) #[] #[]) := hW2 ▸ cell_first W _ _
  have hlt : W.heap.size < W2.heap.size := World.block_lt_of_cell? W2 _ y0
  rw [hW2]
  clear hW2 hBm hBo hBr
  refine wpIn_mono (Q := NoPanic _) ?_ NoPanic.imp
  gi_region_with_o (first
    | (refine ⟨trivial, fun h => absurd h (by decide), ?_⟩; refine (callsIn_wide.2 (HPg.out _)).mono ?_; rintro e w3 ⟨rfl, hb3⟩; have hb3' := (Below.drew (Below.refl _ W2)).trans hb3; have y3 := (hb3'.cell (p := ⟨W.heap.size, 0, none⟩) hlt).trans y0; obtain ⟨fn, tmps, assign, body, hy, hR⟩ := HYd.out w3 (HB2.out.trans (hb3'.mono HB2.out.size)); have HR3 := Lib.hid hR; clear hR)
    | (refine ⟨fun h => absurd h (by decide), ?_⟩; refine HR3.out.mono ?_; rintro e W5 ⟨rfl, hJ5⟩; have HJ5 := Lib.hid hJ5; clear hJ5))
  all_goals (
    refine NoPanic.normal ?_
    gi_wp2
    exact ⟨_, results_none rfl _ _ _, ⟨_, rfl⟩, HJ5.out⟩)
section
variable {σ : Type} {lk : σ → Nat → Nat → Nat → (Ent × Int) × σ} {yd : σ → Slt → σ} {ct : σ → Slt → Bool} {f : σ → Nat} {C : Nat}
/-- whoever counts what is told counts no more than may be -/
def Few (f : σ → Nat) (C : Nat) (t : St σ) : Prop := (t.go = true → 1 ≤ t.left) ∧ f t.s + t.left ≤ C
theorem few_visit (hy : ∀ s x, f (yd s x) ≤ f s + 1) {t : St σ} (hgo : t.go = true) (h : Few f C t) (y : Slt) : Few f C (visitS yd ct t y) := by
  have h1 := h.1 hgo
  have h2 := h.2
  unfold visitS
  split
  · exact ⟨fun e => by have e' := of_decide_eq_true e; show 1 ≤ t.left - 1; omega, by show f t.s + (t.left - 1) ≤ C; omega⟩
  · have := hy t.s y
    refine ⟨fun e => ?_, by show f (yd t.s y) + (t.left - 1) ≤ C; omega⟩
    have e' : (ct t.s y && decide (1 < t.left)) = true := e
    rw [Bool.and_eq_true] at e'
    have := of_decide_eq_true e'.2
    show 1 ≤ t.left - 1
    omega
theorem few_tab (hl : ∀ s a b c, f (lk s a b c).2 ≤ f s) (hy : ∀ s x, f (yd s x) ≤ f s + 1) {deep : Nat → Nat → Nat → St σ → St σ} (hd : ∀ a b c t, Few f C t → Few f C (deep a b c t)) (fr virt lev : Nat) {t : St σ} (h : Few f C t) : ∀ i, Few f C (tabN lk yd ct deep fr virt lev i t)
  | 0 => h
  | i + 1 => by
    have hi := few_tab hl hy hd fr virt lev h i
    rw [tabN]
    split
    · rename_i hgo
      have h2 := hl (tabN lk yd ct deep fr virt lev i t).s fr i lev
      have hi2 : Few f C { tabN lk yd ct deep fr virt lev i t with s := (lk (tabN lk yd ct deep fr virt lev i t).s fr i lev).2 } := ⟨hi.1, by have := hi.2; show f (lk (tabN lk yd ct deep fr virt lev i t).s fr i lev).2 + (tabN lk yd ct deep fr virt lev i t).left ≤ C; omega⟩
      by_cases h41 : (lk (tabN lk yd ct deep fr virt lev i t).s fr i lev).1.2 = 41
      · rw [step_absent h41]
        exact hi2
      · rw [step_aft h41]
        have hv : ∀ y, Few f C (visitS yd ct { tabN lk yd ct deep fr virt lev i t with s := (lk (tabN lk yd ct deep fr virt lev i t).s fr i lev).2 } y) := fun y => few_visit hy (by exact hgo) hi2 y
        unfold aft
        split
        · exact hd _ _ _ _ (hv _)
        · exact hv _
    · exact hi
theorem few_all (hl : ∀ s a b c, f (lk s a b c).2 ≤ f s) (hy : ∀ s x, f (yd s x) ≤ f s + 1) (root : Nat) {t : St σ} (h : Few f C t) : Few f C (allS lk yd ct root t) :=
  few_tab hl hy (fun a b c _ h => few_tab hl hy (fun a b c _ h => few_tab hl hy (fun _ _ _ _ h => h) a b c h 512) a b c h 512) root 0 0 h 512
end
end Go.Proofs.YtdkhhofgfbnmkaaGreat
/- WalkPlays: what leaves keeps. Own work. -/
namespace Go.Proofs.YtdkhhofgfbnmkaaGreat
open Go.RowKit Go.Maps Go.Shelf Go.Proofs.YtdkhhofgfbnmkaaGreat.Sp Wk Lv
/-- a number in a block -/
def IntAt (w : World) (g : Nat) (n : Int) : Prop := w.heap[g]? = some (.cells #[.int .i64 n] 3 (0, 0))
theorem IntAt.lt {w : World} {g : Nat} {n : Int} (h : IntAt w g n) : g < w.heap.size := (Array.getElem?_eq_some_iff.1 (show w.heap[g]? = _ from h)).1
theorem IntAt.keeps {Z : Nat → Prop} {w w' : World} {g : Nat} {n : Int} (h : IntAt w g n) (hk : Keeps Z w w') (hn : ¬ Z g) : IntAt w' g n := (hk.block g h.lt hn).trans h
theorem IntAt.below {w w' : World} {g : Nat} {n : Int} (h : IntAt w g n) (hb : Below w.heap.size w w') : IntAt w' g n := (hb.block g h.lt).trans h
theorem IntAt.cell {w : World} {g : Nat} {n : Int} (h : IntAt w g n) : w.cell? ⟨g, 0, none⟩ = some (.int .i64 n) := by
  have h' : w.heap[g]? = _ := h
  simp [World.cell?, h']
theorem IntAt.frozen {w : World} {g : Nat} {n : Int} (h : IntAt w g n) : w.frozen? ⟨g, 0, none⟩ = false := by
  have h' : w.heap[g]? = _ := h
  simp [World.frozen?, h']
theorem IntAt.set {w : World} {g : Nat} {n : Int} (h : IntAt w g n) (m : Int) : IntAt (w.setCell ⟨g, 0, none⟩ (.int .i64 m)) g m := by
  have h' : w.heap[g]? = _ := h
  simp [IntAt, World.setCell, Array.getElem?_modify, h']
/-- a result in a block -/
def BoxR (w : World) (g : Nat) (b : Bool) : Prop := w.heap[g]? = some (.cells #[.bool b] 4 (0, 0))
theorem BoxR.lt {w : World} {g : Nat} {b : Bool} (h : BoxR w g b) : g < w.heap.size := (Array.getElem?_eq_some_iff.1 (show w.heap[g]? = _ from h)).1
theorem BoxR.keeps {Z : Nat → Prop} {w w' : World} {g : Nat} {b : Bool} (h : BoxR w g b) (hk : Keeps Z w w') (hn : ¬ Z g) : BoxR w' g b := (hk.block g h.lt hn).trans h
theorem BoxR.below {w w' : World} {g : Nat} {b : Bool} (h : BoxR w g b) (hb : Below w.heap.size w w') : BoxR w' g b := (hb.block g h.lt).trans h
theorem BoxR.cell {w : World} {g : Nat} {b : Bool} (h : BoxR w g b) : w.cell? ⟨g, 0, none⟩ = some (.bool b) ∧ w.frozen? ⟨g, 0, none⟩ = false := by
  have h' : w.heap[g]? = _ := h
  simp [World.cell?, World.frozen?, h']
theorem BoxR.set {w : World} {g : Nat} {b : Bool} (h : BoxR w g b) (c : Bool) : BoxR (w.setCell ⟨g, 0, none⟩ (.bool c)) g c := by
  have h' : w.heap[g]? = _ := h
  simp [BoxR, World.setCell, Array.getElem?_modify, h']
/-- a list in a block -/
def LsAt (w : World) (g : Nat) (v : Value) : Prop := w.heap[g]? = some (.cells #[v] 116 (0, 0))
theorem LsAt.lt {w : World} {g : Nat} {v : Value} (h : LsAt w g v) : g < w.heap.size := (Array.getElem?_eq_some_iff.1 (show w.heap[g]? = _ from h)).1
theorem LsAt.keeps {Z : Nat → Prop} {w w' : World} {g : Nat} {v : Value} (h : LsAt w g v) (hk : Keeps Z w w') (hn : ¬ Z g) : LsAt w' g v := (hk.block g h.lt hn).trans h
theorem LsAt.cell {w : World} {g : Nat} {v : Value} (h : LsAt w g v) : w.cell? ⟨g, 0, none⟩ = some v := by
  have h' : w.heap[g]? = _ := h
  simp [World.cell?, h']
def enc7 (y : T7) : List Value := [.int .u64 y.1, .int .u64 y.2.1, .int .i64 y.2.2.1, .bool y.2.2.2.1, .bool y.2.2.2.2.1, .bool y.2.2.2.2.2.1, .int .i64 y.2.2.2.2.2.2]
theorem enc_td (x : Slt) : encTd x = enc7 (td x) := rfl
/-- what the document told, in memory from lo to hi -/
def WantAt (lo hi : Nat) (W : World) (vt : Value) (ws : List T7) : Prop :=
  ∃ a c, vt = .slice a ws.length c ∧ ws.length ≤ c ∧ c ≤ maxLen ∧ (ws = [] ∨ ∃ g cur, a = some ⟨g, 0, none⟩ ∧ lo ≤ g ∧ g < hi ∧ W.heap[g]? = some (.cells cur 125 (0, 0)) ∧ ∀ j (h : j < ws.length) k, k < 7 → cur[j * 7 + k]? = (enc7 (ws[j]'h))[k]?)
theorem WantAt.keeps {lo hi : Nat} {W W' : World} {vt : Value} {ws : List T7} {Z : Nat → Prop} (h : WantAt lo hi W vt ws) (hk : Keeps Z W W') (hz : ∀ j, lo ≤ j → j < hi → ¬ Z j) : WantAt lo hi W' vt ws := by
  obtain ⟨a, c, h1, h2, h3, h4⟩ := h
  refine ⟨a, c, h1, h2, h3, ?_⟩
  rcases h4 with h4 | ⟨g, cur, e, h5, h6, h7, h8⟩
  · exact .inl h4
  · exact .inr ⟨g, cur, e, h5, h6, (hk.block g (Array.getElem?_eq_some_iff.1 h7).1 (hz g h5 h6)).trans h7, h8⟩
theorem WantAt.cells {lo hi : Nat} {W : World} {a : Option Addr} {n c : Nat} {ws : List T7} (h : WantAt lo hi W (.slice a n c) ws) (j : Nat) (hj : j < ws.length) : ∃ g, a = some ⟨g, 0, none⟩ ∧ W.cell? ⟨g, j * 7, none⟩ = some (.int .u64 (ws[j]'hj).1) ∧ W.cell? ⟨g, j * 7 + 1, none⟩ = some (.int .u64 (ws[j]'hj).2.1) ∧ W.cell? ⟨g, j * 7 + 2, none⟩ = some (.int .i64 (ws[j]'hj).2.2.1) ∧ W.cell? ⟨g, j * 7 + 3, none⟩ = some (.bool (ws[j]'hj).2.2.2.1) ∧ W.cell? ⟨g, j * 7 + 4, none⟩ = some (.bool (ws[j]'hj).2.2.2.2.1) ∧ W.cell? ⟨g, j * 7 + 5, none⟩ = some (.bool (ws[j]'hj).2.2.2.2.2.1) ∧ W.cell? ⟨g, j * 7 + 6, none⟩ = some (.int .i64 (ws[j]'hj).2.2.2.2.2.2) := by
  obtain ⟨a', c', h1, h2, h3, h4⟩ := h
  cases h1
  rcases h4 with h4 | ⟨g, cur, e, h5, h6, h7, h8⟩
  · rw [h4] at hj
    simp at hj
  · refine ⟨g, e, ?_, ?_, ?_, ?_, ?_, ?_, ?_⟩
    · rw [cell_of_row W g _ _ _ _ h7]; exact h8 j hj 0 (by omega)
    · rw [cell_of_row W g _ _ _ _ h7]; exact h8 j hj 1 (by omega)
    · rw [cell_of_row W g _ _ _ _ h7]; exact h8 j hj 2 (by omega)
    · rw [cell_of_row W g _ _ _ _ h7]; exact h8 j hj 3 (by omega)
    · rw [cell_of_row W g _ _ _ _ h7]; exact h8 j hj 4 (by omega)
    · rw [cell_of_row W g _ _ _ _ h7]; exact h8 j hj 5 (by omega)
    · rw [cell_of_row W g _ _ _ _ h7]; exact h8 j hj 6 (by omega)
theorem want_own {w : World} {base : Nat} {vt : Value} {want : List Slt} (h : OwnTd w base vt want) : WantAt base w.heap.size w vt (want.map td) := by
  rcases h.2 with ⟨rfl, h0⟩ | ⟨g, cap, cur, rfl, hbb, hgg, h1, h2, h3, h4⟩
  · have e : want = [] := List.eq_nil_of_length_eq_zero h0
    subst e
    exact ⟨none, 0, rfl, Nat.le_refl _, Nat.zero_le _, .inl rfl⟩
  · refine ⟨_, cap, by rw [List.length_map], by rw [List.length_map]; exact h1, h2, .inr ⟨g, cur, rfl, hbb, (Array.getElem?_eq_some_iff.1 hgg).1, hgg, fun j hj k hk => ?_⟩⟩
    have hj' : j < want.length := by simpa using hj
    rw [← Array.getElem?_toList, List.getElem_map, ← enc_td, ← encTds_get want j k hj' hk, ← h4, List.getElem?_take_of_lt (by omega)]
open Classical in
/-- is an entry on the bus? -/
noncomputable def onB (LL : List Sp) (a : Nat) : Bool := decide (∀ i : Nat, i < 8 → On LL ((a : Int) + i))
theorem look_off {LL : List Sp} {M : Nat → Nat} {a : Nat} {l : Int} (h : onB LL a = false) : (lookF LL M a l).2 ≠ 41 := by
  unfold onB at h
  rw [decide_eq_false_iff_not] at h
  unfold lookF
  rw [if_neg h]
  decide
theorem look_frm (LL : List Sp) (M : Nat → Nat) (a : Nat) (l : Int) : (lookF LL M a l).1.1 + 4096 ≤ 18446744073709551616 := by
  unfold lookF
  split
  · have := (ent_lt (e := Pl.num 8 (rdTo M a 8 8)) (l := l) (y := (entB (Pl.num 8 (rdTo M a 8 8)) l).1) (k := (entB (Pl.num 8 (rdTo M a 8 8)) l).2) rfl).1
    omega
  · decide
end Go.Proofs.YtdkhhofgfbnmkaaGreat
/- The document's own accesses of a width that is none. Own work. -/
namespace Go.Proofs.YtdkhhofgfbnmkaaGreat
open Go.RowKit Go.Maps Go.Proofs.YtdkhhofgfbnmkaaGreat.Sp Wk Lv
theorem not_wide {n : Int} (h : ∀ k : Nat, Wide k → n ≠ (k : Int)) : (n != 1) = true ∧ (n != 2) = true ∧ (n != 4) = true ∧ (n != 8) = true := by
  have h1 := h 1 (.inl rfl)
  have h2 := h 2 (.inr (.inl rfl))
  have h3 := h 4 (.inr (.inr (.inl rfl)))
  have h4 := h 8 (.inr (.inr (.inr rfl)))
  exact ⟨by simpa using h1, by simpa using h2, by simpa using h3, by simpa using h4⟩
set_option maxRecDepth 100000 in
set_option maxHeartbeats 2000000 in
theorem rbytes_no {pm : Value} {t vi : Nat} {n acc : Int} (h : ∀ k : Nat, Wide k → n ≠ (k : Int)) (w : World) :
    Calls Tryz.prog 47 #[pm, .int .u64 (t : Int), .int .u64 (vi : Int), .int .i64 n, .int .i64 acc] w fun e w' => e = .returned (.tuple #[.slice none 0 0, .agg #[.int .i64 31, .int .u64 (vi : Int)]]) ∧ Below w.heap.size w w' := by
  obtain ⟨h1, h2, h3, h4⟩ := not_wide h
  clear h
  obtain ⟨s0, s1, _, _⟩ := (BoxG.new w 31 (vi : Int)).cells
  go_enter Tryz.func47, Tryz.ntmps47
  go_wp2_with fail
  refine bodyPost_ret (v := .tuple #[.slice none 0 0, .agg #[.int .i64 31, .int .u64 (vi : Int)]]) (by simp [results, Tryz.results47, go_sem, s0, s1]) rfl ?_
  exact ⟨rfl, (Below.refl _ _).alloc (Nat.le_refl _) _⟩
set_option maxRecDepth 100000 in
set_option maxHeartbeats 2000000 in
theorem rld_no {pm : Value} {t vi : Nat} {n acc : Int} (h : ∀ k : Nat, Wide k → n ≠ (k : Int)) (w : World) :
    Calls Tryz.prog 23 #[pm, .int .u64 (t : Int), .int .u64 (vi : Int), .int .i64 n, .int .i64 acc] w fun e w' => e = .returned (.tuple #[.int .u64 0, .agg #[.int .i64 31, .int .u64 (vi : Int)]]) ∧ Below w.heap.size w w' := by
  have HBs : Hid (∀ acc W, Calls Tryz.prog 47 #[pm, .int .u64 (t : Int), .int .u64 (vi : Int), .int .i64 n, .int .i64 acc] W fun e w' => e = .returned (.tuple #[.slice none 0 0, .agg #[.int .i64 31, .int .u64 (vi : Int)]]) ∧ Below W.heap.size W w') := fun acc W => rbytes_no h W
  clear h
  go_enter Tryz.func23, Tryz.ntmps23
  go_wp2_with fail
  refine (HBs.out _ _).mono ?_
  rintro e w2 ⟨rfl, hb2⟩
  have hb1 : Below w.heap.size w w2 := ((Below.refl _ w).alloc (Nat.le_refl _) _).trans (hb2.mono (by simp))
  have hz : BoxG w2 w.heap.size 0 0 := (hb2.block w.heap.size (by simp)).trans (BoxG.new w 0 0)
  clear HBs
  go_upto_region 2 with fail
  obtain ⟨W3, hW3⟩ : ∃ W3, w2.alloc (Obj.cells #[.int .i64 31, .int .u64 (vi : Int)] 41) = W3 := ⟨_, rfl⟩
  have hb3 : Below w2.heap.size w2 W3 := hW3 ▸ (Below.refl _ _).alloc (Nat.le_refl _) _
  have hf3 : BoxG W3 w2.heap.size 31 (vi : Int) := hW3 ▸ BoxG.new w2 31 (vi : Int)
  rw [hW3]
  clear hW3
  have hz3 := hz.below hb3
  have hlz : w.heap.size < w2.heap.size := hz.lt
  obtain ⟨g0, g1, _, _⟩ := hf3.cells
  obtain ⟨q0, q1, q2, q3⟩ := hz3.cells
  obtain ⟨s0, s1, _, _⟩ := (hz3.set 31 (vi : Int)).cells
  have HF : Hid (Below w.heap.size w ((W3.setCell ⟨w.heap.size, 0, none⟩ (.int .i64 31)).setCell ⟨w.heap.size, 1, none⟩ (.int .u64 (vi : Int)))) := by
    have k1 := hb1.trans (hb3.mono hb1.size)
    exact k1.trans ((Keeps.two W3 w.heap.size (.int .i64 31) (.int .u64 (vi : Int))).below k1.size (fun j _ e => by omega))
  clear hz hz3 hb1 hb2 hb3 hf3
  go_wp2_with fail
  refine wp_loop_rounds 1 ?_
  rw [rounds_succ]
  go_wp2_with fail
  go_region
  all_goals
    go_wp2_with fail
    refine bodyPost_ret (v := .tuple #[.int .u64 0, .agg #[.int .i64 31, .int .u64 (vi : Int)]]) (by simp [results, Tryz.results23, go_sem, s0, s1]) rfl ?_
    exact ⟨rfl, HF.out.trans (Below.mono ⟨rfl, rfl, rfl, Nat.le_refl _, fun _ _ => rfl⟩ HF.out.size)⟩
set_option maxRecDepth 100000 in
set_option maxHeartbeats 2000000 in
theorem rst_no {pm : Value} {t vi : Nat} {n val : Int} (h : ∀ k : Nat, Wide k → n ≠ (k : Int)) (w : World) :
    Calls Tryz.prog 25 #[pm, .int .u64 (t : Int), .int .u64 (vi : Int), .int .i64 n, .int .u64 val] w fun e w' => e = .returned (.agg #[.int .i64 31, .int .u64 (vi : Int)]) ∧ Below w.heap.size w w' := by
  have HBs : Hid (∀ acc W, Calls Tryz.prog 47 #[pm, .int .u64 (t : Int), .int .u64 (vi : Int), .int .i64 n, .int .i64 acc] W fun e w' => e = .returned (.tuple #[.slice none 0 0, .agg #[.int .i64 31, .int .u64 (vi : Int)]]) ∧ Below W.heap.size W w') := fun acc W => rbytes_no h W
  clear h
  go_enter Tryz.func25, Tryz.ntmps25
  go_wp2_with fail
  refine (HBs.out _ _).mono ?_
  rintro e w2 ⟨rfl, hb2⟩
  have hb1 : Below w.heap.size w w2 := ((Below.refl _ w).alloc (Nat.le_refl _) _).trans (hb2.mono (by simp))
  have hz : BoxG w2 w.heap.size 0 0 := (hb2.block w.heap.size (by simp)).trans (BoxG.new w 0 0)
  clear HBs
  go_upto_region 2 with fail
  obtain ⟨W3, hW3⟩ : ∃ W3, w2.alloc (Obj.cells #[.int .i64 31, .int .u64 (vi : Int)] 41) = W3 := ⟨_, rfl⟩
  have hb3 : Below w2.heap.size w2 W3 := hW3 ▸ (Below.refl _ _).alloc (Nat.le_refl _) _
  have hf3 : BoxG W3 w2.heap.size 31 (vi : Int) := hW3 ▸ BoxG.new w2 31 (vi : Int)
  rw [hW3]
  clear hW3
  have hz3 := hz.below hb3
  have hlz : w.heap.size < w2.heap.size := hz.lt
  obtain ⟨g0, g1, _, _⟩ := hf3.cells
  obtain ⟨q0, q1, q2, q3⟩ := hz3.cells
  obtain ⟨s0, s1, _, _⟩ := (hz3.set 31 (vi : Int)).cells
  have HF : Hid (Below w.heap.size w ((W3.setCell ⟨w.heap.size, 0, none⟩ (.int .i64 31)).setCell ⟨w.heap.size, 1, none⟩ (.int .u64 (vi : Int)))) := by
    have k1 := hb1.trans (hb3.mono hb1.size)
    exact k1.trans ((Keeps.two W3 w.heap.size (.int .i64 31) (.int .u64 (vi : Int))).below k1.size (fun j _ e => by omega))
  clear hz hz3 hb1 hb2 hb3 hf3
  go_wp2_with fail
  refine wp_loop_rounds 1 ?_
  rw [rounds_succ]
  go_wp2_with fail
  refine bodyPost_ret (v := .agg #[.int .i64 31, .int .u64 (vi : Int)]) (by simp [results, Tryz.results25, go_sem, s0, s1]) rfl ?_
  exact ⟨rfl, HF.out⟩
end Go.Proofs.YtdkhhofgfbnmkaaGreat
