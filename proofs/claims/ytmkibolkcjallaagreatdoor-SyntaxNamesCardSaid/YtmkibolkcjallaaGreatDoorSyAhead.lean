/- Syntax: ahead. -/
import Derived.Test.YtmkibolkcjallaaGreatDoorSyRefuse
namespace Go.Proofs.YtmkibolkcjallaaGreatDoor
open Go.RowKit
/-- the row of lexemes of a text, as ahead answers it -/
def aheadA (v lv : Value) (n : Int) (whole : Bool) : Array Value := #[v, lv, .int .i64 n, .bool whole, .int .i64 0, .int .u64 0, .string ⟨#[]⟩, .int .i64 0, .int .i64 0, .slice none 0 0, .bool false, .int .i64 0, .int .i64 0, .int .i64 0]
def AheadB (w : World) (g : Nat) (v lv : Value) (n : Int) (whole : Bool) : Prop := w.heap[g]? = some (.cells (aheadA v lv n whole) 49 (0, 0))
theorem AheadB.cell {w : World} {g : Nat} {v lv : Value} {n : Int} {whole : Bool} (h : AheadB w g v lv n whole) (i : Nat) {x : Value} (hx : (aheadA v lv n whole)[i]? = some x) : w.cell? ⟨g, i, none⟩ = some x := by
  rw [cell_of_row w g i _ _ _ h]; exact hx
theorem AheadB.thawed {w : World} {g : Nat} {v lv : Value} {n : Int} {whole : Bool} (h : AheadB w g v lv n whole) (i : Nat) : w.frozen? ⟨g, i, none⟩ = false := by
  simp [World.frozen?, show w.heap[g]? = _ from h]
theorem AheadB.set {w : World} {g : Nat} {v lv lv' : Value} {n n' : Int} {whole whole' : Bool} (h : AheadB w g v lv n whole) : AheadB (((w.setCell ⟨g, 1, none⟩ lv').setCell ⟨g, 2, none⟩ (.int .i64 n')).setCell ⟨g, 3, none⟩ (.bool whole')) g v lv' n' whole' := by
  have h' : w.heap[g]? = _ := h
  simp [AheadB, World.setCell, Array.getElem?_modify, h', aheadA]
def fillA (w : World) (g : Nat) (v lv : Value) (n : Int) (b : Bool) : World := ((((((((((((((w.setCell ⟨g, 0, none⟩ (v)).setCell ⟨g, 1, none⟩ (lv)).setCell ⟨g, 2, none⟩ (.int .i64 n)).setCell ⟨g, 3, none⟩ (.bool b)).setCell ⟨g, 4, none⟩ (.int .i64 0)).setCell ⟨g, 5, none⟩ (.int .u64 0)).setCell ⟨g, 6, none⟩ (.string ⟨#[]⟩)).setCell ⟨g, 7, none⟩ (.int .i64 0)).setCell ⟨g, 8, none⟩ (.int .i64 0)).setCell ⟨g, 9, none⟩ (.slice none 0 0)).setCell ⟨g, 10, none⟩ (.bool false)).setCell ⟨g, 11, none⟩ (.int .i64 0)).setCell ⟨g, 12, none⟩ (.int .i64 0)).setCell ⟨g, 13, none⟩ (.int .i64 0))
theorem AheadB.fill {w : World} {g : Nat} {v0 l0 : Value} {n0 : Int} {b0 : Bool} (h : AheadB w g v0 l0 n0 b0) (v lv : Value) (n : Int) (b : Bool) : AheadB (fillA w g v lv n b) g v lv n b := by
  have h' : w.heap[g]? = _ := h
  simp [AheadB, fillA, World.setCell, Array.getElem?_modify, h', aheadA]
theorem Keeps.put {g : Nat} {w w' : World} (h : Keeps (fun k => k = g) w w') (i : Nat) (x : Value) : Keeps (fun k => k = g) w (w'.setCell ⟨g, i, none⟩ x) := h.trans (Keeps.setCell _ _ i _) (fun _ _ e => e)
theorem fill_keeps (w : World) (g : Nat) (v lv : Value) (n : Int) (b : Bool) : Keeps (fun k => k = g) w (fillA w g v lv n b) := by
  unfold fillA
  exact (((((((((((((((Keeps.refl _ _).put 0 _).put 1 _).put 2 _).put 3 _).put 4 _).put 5 _).put 6 _).put 7 _).put 8 _).put 9 _).put 10 _).put 11 _).put 12 _).put 13 _)
set_option maxHeartbeats 1000000 in
theorem ret_ahead {W2 : World} {g : Nat} {v lv : Value} {n : Int} {b : Bool} {T : Array Value} (h : AheadB W2 g v lv n b) (h2 : T[2]?.getD undef = .pointer (some ⟨g, 0, none⟩)) : (results Tryz.f9 T).run Tryz.prog W2 = .ok (.agg (aheadA v lv n b)) W2 := by
  have d0 := h.cell 0 (x := v) rfl
  have d1 := h.cell 1 (x := lv) rfl
  have d2 := h.cell 2 (x := .int .i64 n) rfl
  have d3 := h.cell 3 (x := .bool b) rfl
  have d4 := h.cell 4 (x := .int .i64 0) rfl
  have d5 := h.cell 5 (x := .int .u64 0) rfl
  have d6 := h.cell 6 (x := .string ⟨#[]⟩) rfl
  have d7 := h.cell 7 (x := .int .i64 0) rfl
  have d8 := h.cell 8 (x := .int .i64 0) rfl
  have d9 := h.cell 9 (x := .slice none 0 0) rfl
  have d10 := h.cell 10 (x := .bool false) rfl
  have d11 := h.cell 11 (x := .int .i64 0) rfl
  have d12 := h.cell 12 (x := .int .i64 0) rfl
  have d13 := h.cell 13 (x := .int .i64 0) rfl
  simp [results, Tryz.results9, go_sem, aheadA, h2, d0, d1, d2, d3, d4, d5, d6, d7, d8, d9, d10, d11, d12, d13]
theorem alloc2_0 (w : World) (X Y : Obj) : ((w.alloc X).alloc Y).heap[w.heap.size]? = some X := by
  show ((w.heap.push X).push Y)[w.heap.size]? = some X
  rw [Array.getElem?_push_lt (by simp)]
  simp
theorem alloc2_1 (w : World) (X Y : Obj) : ((w.alloc X).alloc Y).heap[w.heap.size + 1]? = some Y := by
  show ((w.heap.push X).push Y)[w.heap.size + 1]? = some Y
  have := Array.getElem?_push_size (xs := w.heap.push X) (x := Y)
  rw [Array.size_push] at this
  exact this
set_option maxRecDepth 100000 in
set_option maxHeartbeats 2000000 in
theorem ahead_ok {w : World} {v : Value} {zs : List Nat} (ht : Tabs w) (hs : Sl w v zs) (hv : ∀ k, v.ownBlock = some k → k < w.heap.size) (h9 : 4 ≤ w.heap.size) (hok : (Sc.tokens zs).2.2 = 0) :
    Calls Tryz.prog 9 #[v] w fun e w' => ∃ lv, e = .returned (.agg (aheadA v lv (zs.length : Int) true)) ∧ OwnT w' w.heap.size lv (Sc.tokens zs).1 ∧ Below w.heap.size w w' := by
  have HT : Hid (∀ X Y, Calls Tryz.prog 14 #[v] ((w.alloc X).alloc Y) fun e w' => ∃ lv, e = .returned (.tuple #[lv, .int .i64 (zs.length : Int), .bool true]) ∧ OwnT w' (w.heap.size + 2) lv (Sc.tokens zs).1 ∧ Below (w.heap.size + 2) ((w.alloc X).alloc Y) w') := fun X Y => by
    have hb : Below w.heap.size w ((w.alloc X).alloc Y) := ((Below.refl _ _).alloc (by simp) X).alloc (by simp) Y
    have hsz : ((w.alloc X).alloc Y).heap.size = w.heap.size + 2 := by simp
    have := cut_ok (ht.below hb) (hs.below hb) (fun k hk => by have := hv k hk; omega) (by omega) hok
    rw [hsz] at this
    exact this
  have HA : Hid (∀ X Y, Below w.heap.size w ((w.alloc X).alloc Y)) := fun X Y => ((Below.refl _ _).alloc (by simp) X).alloc (by simp) Y
  obtain ⟨ao, cap, rfl, y1, y2, y3, y4, y5⟩ := hs
  clear y1 y2 y3 y4 y5 hv h9 ht hok
  go_enter Tryz.func9, Tryz.ntmps9
  go_wp2_with fail
  refine (HT.out _ _).mono ?_
  rintro e w5 ⟨lv, rfl, ho5, hb5⟩
  obtain ⟨la, lc, rfl⟩ := ho5.form
  have hr5 : AheadB w5 (w.heap.size + 1) (.slice ao zs.length cap) (.slice none 0 0) 0 false := (hb5.block _ (by omega)).trans (alloc2_1 _ _ _)
  have hr4 : AheadB w5 w.heap.size (.slice none 0 0) (.slice none 0 0) 0 false := (hb5.block _ (by omega)).trans (alloc2_0 _ _ _)
  have c0 := hr5.cell 0 (x := .slice ao zs.length cap) rfl
  have b0 := hr4.cell 0 (x := .slice none 0 0) rfl
  have t0 := hr4.thawed 0
  have c1 := hr5.cell 1 (x := .slice none 0 0) rfl
  have b1 := hr4.cell 1 (x := .slice none 0 0) rfl
  have t1 := hr4.thawed 1
  have s1 := hr5.thawed 1
  have c2 := hr5.cell 2 (x := .int .i64 0) rfl
  have b2 := hr4.cell 2 (x := .int .i64 0) rfl
  have t2 := hr4.thawed 2
  have s2 := hr5.thawed 2
  have c3 := hr5.cell 3 (x := .bool false) rfl
  have b3 := hr4.cell 3 (x := .bool false) rfl
  have t3 := hr4.thawed 3
  have s3 := hr5.thawed 3
  have c4 := hr5.cell 4 (x := .int .i64 0) rfl
  have b4 := hr4.cell 4 (x := .int .i64 0) rfl
  have t4 := hr4.thawed 4
  have c5 := hr5.cell 5 (x := .int .u64 0) rfl
  have b5 := hr4.cell 5 (x := .int .u64 0) rfl
  have t5 := hr4.thawed 5
  have c6 := hr5.cell 6 (x := .string ⟨#[]⟩) rfl
  have b6 := hr4.cell 6 (x := .string ⟨#[]⟩) rfl
  have t6 := hr4.thawed 6
  have c7 := hr5.cell 7 (x := .int .i64 0) rfl
  have b7 := hr4.cell 7 (x := .int .i64 0) rfl
  have t7 := hr4.thawed 7
  have c8 := hr5.cell 8 (x := .int .i64 0) rfl
  have b8 := hr4.cell 8 (x := .int .i64 0) rfl
  have t8 := hr4.thawed 8
  have c9 := hr5.cell 9 (x := .slice none 0 0) rfl
  have b9 := hr4.cell 9 (x := .slice none 0 0) rfl
  have t9 := hr4.thawed 9
  have c10 := hr5.cell 10 (x := .bool false) rfl
  have b10 := hr4.cell 10 (x := .bool false) rfl
  have t10 := hr4.thawed 10
  have c11 := hr5.cell 11 (x := .int .i64 0) rfl
  have b11 := hr4.cell 11 (x := .int .i64 0) rfl
  have t11 := hr4.thawed 11
  have c12 := hr5.cell 12 (x := .int .i64 0) rfl
  have b12 := hr4.cell 12 (x := .int .i64 0) rfl
  have t12 := hr4.thawed 12
  have c13 := hr5.cell 13 (x := .int .i64 0) rfl
  have b13 := hr4.cell 13 (x := .int .i64 0) rfl
  have t13 := hr4.thawed 13
  have HR5 := Lib.hid hr5
  have HR4 := Lib.hid hr4
  have HO5 := Lib.hid ho5
  have HB5 := Lib.hid hb5
  clear hr5 hr4 ho5 hb5
  go_wp2_with fail
  have HK1 : Hid (Keeps (fun k => k = w.heap.size + 1) w5 (((w5.setCell ⟨w.heap.size + 1, 1, none⟩ (.slice la (Sc.tokens zs).1.length lc)).setCell ⟨w.heap.size + 1, 2, none⟩ (.int .i64 (zs.length : Int))).setCell ⟨w.heap.size + 1, 3, none⟩ (.bool true))) := (((Keeps.refl _ _).put 1 _).put 2 _).put 3 _
  obtain ⟨w6, hw6⟩ : ∃ w6, ((w5.setCell ⟨w.heap.size + 1, 1, none⟩ (.slice la (Sc.tokens zs).1.length lc)).setCell ⟨w.heap.size + 1, 2, none⟩ (.int .i64 (zs.length : Int))).setCell ⟨w.heap.size + 1, 3, none⟩ (.bool true) = w6 := ⟨_, rfl⟩
  rw [hw6] at HK1 ⊢
  have hk2 := fill_keeps w6 w.heap.size (.slice ao zs.length cap) (.slice la (Sc.tokens zs).1.length lc) (zs.length : Int) true
  have hr6 : AheadB w6 w.heap.size (.slice none 0 0) (.slice none 0 0) 0 false := (HK1.out.block _ (by have := HB5.out.size; simp at this; omega) (by show ¬ (w.heap.size = w.heap.size + 1); omega)).trans HR4.out
  have hr7 := hr6.fill (.slice ao zs.length cap) (.slice la (Sc.tokens zs).1.length lc) (zs.length : Int) true
  refine bodyPost_ret (v := .agg (aheadA (.slice ao zs.length cap) (.slice la (Sc.tokens zs).1.length lc) (zs.length : Int) true)) (ret_ahead hr7 rfl) rfl ?_
  have hk : Keeps (fun k => k = w.heap.size + 1 ∨ k = w.heap.size) w5 (fillA w6 w.heap.size (.slice ao zs.length cap) (.slice la (Sc.tokens zs).1.length lc) (zs.length : Int) true) := (HK1.out.mono (fun _ _ e => .inl e)).trans hk2 (fun _ _ e => .inr e)
  have ho := HO5.out.keeps hk (fun k hk => by have := HO5.out.lt k hk; omega)
  have hbb := (HA.out _ _).trans (HB5.out.mono (by omega))
  exact ⟨_, rfl, ⟨ho.1, ho.2.imp id (fun ⟨g, c, cur, e, hb, r⟩ => ⟨g, c, cur, e, by omega, r⟩)⟩, hbb.trans (hk.below (B := w.heap.size) (by have := HB5.out.size; simp at this; omega) (fun i _ e => by omega))⟩
end Go.Proofs.YtmkibolkcjallaaGreatDoor
