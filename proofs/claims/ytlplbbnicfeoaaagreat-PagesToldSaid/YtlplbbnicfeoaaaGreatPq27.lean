import Derived.Test.YtlplbbnicfeoaaaGreatPq26
import Derived.Deep.RegionHeld3
/- leaf, below, further: what Leaves calls. Own work. -/
namespace Go.Proofs.YtlplbbnicfeoaaaGreat
open Go.RowKit Go.Shelf Wk Lv
attribute [local go_sem] Oper.semAt_some
/-- a leaf's value -/
def LfV (virt phys : Nat) (pages : Nat) (x : Ent) : Value := .agg #[.int .u64 (virt : Int), .int .u64 (phys : Int), .int .i64 (pages : Int), .bool x.2.2.1, .bool x.2.2.2.1, .bool x.2.2.2.2]
/-- a leaf in a block -/
def BoxL (w : World) (g v p : Nat) (n : Int) (b c d : Bool) : Prop := w.heap[g]? = some (.cells #[.int .u64 (v : Int), .int .u64 (p : Int), .int .i64 n, .bool b, .bool c, .bool d] 26 (0, 0))
theorem BoxL.lt {w : World} {g v p : Nat} {n : Int} {b c d : Bool} (h : BoxL w g v p n b c d) : g < w.heap.size := (Array.getElem?_eq_some_iff.1 (show w.heap[g]? = _ from h)).1
theorem BoxL.below {w w' : World} {g v p : Nat} {n : Int} {b c d : Bool} (h : BoxL w g v p n b c d) (hb : Below w.heap.size w w') : BoxL w' g v p n b c d := (hb.block g h.lt).trans h
theorem BoxL.cells {w : World} {g v p : Nat} {n : Int} {b c d : Bool} (h : BoxL w g v p n b c d) : w.cell? ⟨g, 0, none⟩ = some (.int .u64 (v : Int)) ∧ w.cell? ⟨g, 1, none⟩ = some (.int .u64 (p : Int)) ∧ w.cell? ⟨g, 2, none⟩ = some (.int .i64 n) ∧ w.cell? ⟨g, 3, none⟩ = some (.bool b) ∧ w.cell? ⟨g, 4, none⟩ = some (.bool c) ∧ w.cell? ⟨g, 5, none⟩ = some (.bool d) := by
  have h' : w.heap[g]? = _ := h
  simp [World.cell?, h']
theorem BoxL.frozen {w : World} {g v p : Nat} {n : Int} {b c d : Bool} (h : BoxL w g v p n b c d) (i : Nat) : w.frozen? ⟨g, i, none⟩ = false := by
  have h' : w.heap[g]? = _ := h
  simp [World.frozen?, h']
def putL (w : World) (g v p : Nat) (n : Int) (b c d : Bool) : World := (((((w.setCell ⟨g, 0, none⟩ (.int .u64 (v : Int))).setCell ⟨g, 1, none⟩ (.int .u64 (p : Int))).setCell ⟨g, 2, none⟩ (.int .i64 n)).setCell ⟨g, 3, none⟩ (.bool b)).setCell ⟨g, 4, none⟩ (.bool c)).setCell ⟨g, 5, none⟩ (.bool d)
theorem putL_keeps (w : World) (g v p : Nat) (n : Int) (b c d : Bool) : Keeps (fun j => j = g) w (putL w g v p n b c d) :=
  (((((Keeps.setCell w g 0 _).trans (Keeps.setCell _ g 1 _) (fun _ _ e => e)).trans (Keeps.setCell _ g 2 _) (fun _ _ e => e)).trans (Keeps.setCell _ g 3 _) (fun _ _ e => e)).trans (Keeps.setCell _ g 4 _) (fun _ _ e => e)).trans (Keeps.setCell _ g 5 _) (fun _ _ e => e)
theorem BoxL.put {w : World} {g v p : Nat} {n : Int} {b c d : Bool} (h : BoxL w g v p n b c d) (v' p' : Nat) (n' : Int) (b' c' d' : Bool) : BoxL (putL w g v' p' n' b' c' d') g v' p' n' b' c' d' := by
  have h' : w.heap[g]? = _ := h
  simp [BoxL, putL, World.setCell, Array.getElem?_modify, h']
set_option maxRecDepth 100000 in
set_option maxHeartbeats 4000000 in
theorem sleaf_any (virt : Nat) (lev : Int) (pg : Nat) (x : Ent) (why : Int) (w : World)
    (hpg : ∀ W, Calls Tryz.prog 49 #[.int .i64 lev] W fun e w' => e = .returned (.int .i64 (pg : Int)) ∧ Below W.heap.size W w') :
    Calls Tryz.prog 51 #[SltV virt lev x why] w fun e w' => e = .returned (LfV virt x.1 pg x) ∧ Below w.heap.size w w' := by
  obtain ⟨f0, b1, b2, b3, b4⟩ := x
  unfold SltV LfV
  dsimp only
  have HPg := Lib.hid hpg
  clear hpg
  go_enter Tryz.func51, Tryz.ntmps51
  go_wp2_with fail
  obtain ⟨W2, hW2⟩ : ∃ W2, (w.alloc (Obj.cells #[.int .u64 (virt : Int), .int .i64 lev, .int .u64 (f0 : Int), .bool b1, .bool b2, .bool b3, .bool b4, .int .i64 why] 114)).alloc (Obj.cells #[.int .u64 0, .int .u64 0, .int .i64 0, .bool false, .bool false, .bool false] 26) = W2 := ⟨_, rfl⟩
  have HB2 : Hid (Below w.heap.size w W2) := hW2 ▸ (((Below.refl _ w).alloc (Nat.le_refl _) _).alloc (by simp) _)
  have HS2 : Hid (BoxS W2 w.heap.size virt lev (f0, b1, b2, b3, b4) why) := hW2 ▸ (BoxS.new w virt lev (f0, b1, b2, b3, b4) why).below ((Below.refl _ _).alloc (Nat.le_refl _) _)
  have HL2 : Hid (BoxL W2 (w.heap.size + 1) 0 0 0 false false false) := by
    show BoxL W2 _ _ _ _ _ _ _
    rw [← hW2]
    have := World.alloc_heap_new (w.alloc (Obj.cells #[.int .u64 (virt : Int), .int .i64 lev, .int .u64 (f0 : Int), .bool b1, .bool b2, .bool b3, .bool b4, .int .i64 why] 114)) (Obj.cells #[.int .u64 0, .int .u64 0, .int .i64 0, .bool false, .bool false, .bool false] 26)
    rwa [World.size_alloc] at this
  rw [hW2]
  clear hW2
  obtain ⟨s0, s1, s2, s3, s4, s5, s6, s7⟩ := HS2.out.cells
  dsimp only at s0 s1 s2 s3 s4 s5 s6 s7
  go_region_held3 (fun w' => w'.cell? ⟨w.heap.size, 0, none⟩ = some (.int .u64 (virt : Int)) ∧ w'.cell? ⟨w.heap.size, 1, none⟩ = some (.int .i64 lev) ∧ w'.cell? ⟨w.heap.size, 2, none⟩ = some (.int .u64 (f0 : Int)) ∧ w'.cell? ⟨w.heap.size, 4, none⟩ = some (.bool b2) ∧ w'.cell? ⟨w.heap.size, 5, none⟩ = some (.bool b3) ∧ w'.cell? ⟨w.heap.size, 6, none⟩ = some (.bool b4)) (first | go_keep) (first | (go_at_call 49; refine (HPg.out _).mono ?_; rintro e w3 ⟨rfl, hb3⟩; have HB3 := Lib.hid ((Below.drew (Below.refl _ W2)).trans hb3); clear hb3; obtain ⟨t0, t1, t2, t3, t4, t5, t6, t7⟩ := (HS2.out.below HB3.out).cells; dsimp only at t0 t1 t2 t3 t4 t5 t6 t7; have HL3 := Lib.hid (HL2.out.below HB3.out); obtain ⟨q0, q1, q2, q3, q4, q5⟩ := HL3.out.cells; have g0 := HL3.out.frozen 0; have g1 := HL3.out.frozen 1; have g2 := HL3.out.frozen 2; have g3 := HL3.out.frozen 3; have g4 := HL3.out.frozen 4; have g5 := HL3.out.frozen 5))
  clear s0 s1 s2 s3 s4 s5 s6 s7 t0 t1 t2 t3 t4 t5 t6 t7 q0 q1 q2 q3 q4 q5 g0 g1 g2 g3 g4 g5
  go_wp2_with fail
  obtain ⟨d0, d1, d2, d3, d4, d5⟩ := (HL3.out.put virt f0 (pg : Int) b2 b3 b4).cells
  refine (fun (h : bodyPost _ _ _ _ _ (putL w3 (w.heap.size + 1) virt f0 (pg : Int) b2 b3 b4)) => h) ?_
  refine bodyPost_ret (v := .agg #[.int .u64 (virt : Int), .int .u64 (f0 : Int), .int .i64 (pg : Int), .bool b2, .bool b3, .bool b4]) (by simp [results, Tryz.results51, go_sem, d0, d1, d2, d3, d4, d5]) rfl ?_
  have hs := HB2.out.size
  have hs3 := HB3.out.size
  exact ⟨rfl, (HB2.out.trans (HB3.out.mono hs)).trans ((putL_keeps w3 (w.heap.size + 1) virt f0 (pg : Int) b2 b3 b4).below (by omega) (fun i _ e => by omega))⟩
theorem sbelow_any (virt : Nat) (lev : Int) (x : Ent) (why : Int) (T : TypeId) (u : Value) (w : World) :
    Calls Tryz.prog 52 #[SltV virt lev x why, .iface T u] w fun e w' => e = .returned (.func (.func 78) #[] #[.pointer (some ⟨w.heap.size, 0, none⟩), .pointer (some ⟨w.heap.size + 1, 0, none⟩)]) ∧ BoxS w' w.heap.size virt lev x why ∧ w'.cell? ⟨w.heap.size + 1, 0, none⟩ = some (.iface T u) ∧ w'.heap.size = w.heap.size + 2 ∧ Below w.heap.size w w' := by
  obtain ⟨f0, b1, b2, b3, b4⟩ := x
  unfold SltV
  dsimp only
  go_enter Tryz.func52, Tryz.ntmps52
  go_wp2
  go_ret
  refine ⟨rfl, (BoxS.new w virt lev (f0, b1, b2, b3, b4) why).below ((Below.refl _ _).alloc (Nat.le_refl _) _), ?_, by simp, ((Below.refl _ w).alloc (Nat.le_refl _) _).alloc (by simp) _⟩
  have := World.alloc_heap_new (w.alloc (Obj.cells #[.int .u64 (virt : Int), .int .i64 lev, .int .u64 (f0 : Int), .bool b1, .bool b2, .bool b3, .bool b4, .int .i64 why] 114)) (Obj.cells #[.iface T u] 107)
  rw [World.size_alloc] at this
  revert this
  generalize World.alloc _ _ = Wn
  intro this
  simp [World.cell?, this]
/-- how many are left -/
def LeftAt (w : World) (g : Nat) (n : Nat) : Prop := w.heap[g]? = some (.cells #[.int .i64 (n : Int)] 3 (0, 0))
theorem LeftAt.lt {w : World} {g n : Nat} (h : LeftAt w g n) : g < w.heap.size := (Array.getElem?_eq_some_iff.1 (show w.heap[g]? = _ from h)).1
theorem LeftAt.keeps {Z : Nat → Prop} {w w' : World} {g n : Nat} (h : LeftAt w g n) (hk : Keeps Z w w') (hn : ¬ Z g) : LeftAt w' g n := (hk.block g h.lt hn).trans h
theorem LeftAt.below {w w' : World} {g n : Nat} (h : LeftAt w g n) (hb : Below w.heap.size w w') : LeftAt w' g n := (hb.block g h.lt).trans h
theorem LeftAt.cell {w : World} {g n : Nat} (h : LeftAt w g n) : w.cell? ⟨g, 0, none⟩ = some (.int .i64 (n : Int)) := by
  have h' : w.heap[g]? = _ := h
  simp [World.cell?, h']
theorem LeftAt.frozen {w : World} {g n : Nat} (h : LeftAt w g n) : w.frozen? ⟨g, 0, none⟩ = false := by
  have h' : w.heap[g]? = _ := h
  simp [World.frozen?, h']
theorem LeftAt.set {w : World} {g n : Nat} (h : LeftAt w g n) (m : Nat) : LeftAt (w.setCell ⟨g, 0, none⟩ (.int .i64 (m : Int))) g m := by
  have h' : w.heap[g]? = _ := h
  simp [LeftAt, World.setCell, Array.getElem?_modify, h']
theorem below_drewNn (w : World) (k : Nat) : Below w.heap.size w (w.drewN k) := ⟨rfl, rfl, rfl, Nat.le_refl _, fun _ _ => rfl⟩
/-- the worlds of further -/
structure Fw (W W2 : World) (Bl virt : Nat) (lev : Int) (x : Ent) (why : Int) (m : Nat) : Prop where
  box : BoxS W2 W.heap.size virt lev x why
  left : LeftAt W2 Bl m
  keeps : Keeps (fun k => k = Bl) W W2
theorem Fw.of {W : World} {Bl left : Nat} (hl : LeftAt W Bl left) (virt : Nat) (lev : Int) (x : Ent) (why : Int) (m : Nat) :
    Fw W ((W.setCell ⟨Bl, 0, none⟩ (.int .i64 (m : Int))).alloc (Obj.cells #[.int .u64 (virt : Int), .int .i64 lev, .int .u64 (x.1 : Int), .bool x.2.1, .bool x.2.2.1, .bool x.2.2.2.1, .bool x.2.2.2.2, .int .i64 why] 114)) Bl virt lev x why m where
  box := by
    have := BoxS.new (W.setCell ⟨Bl, 0, none⟩ (.int .i64 (m : Int))) virt lev x why
    rwa [show (W.setCell ⟨Bl, 0, none⟩ (.int .i64 (m : Int))).heap.size = W.heap.size from by simp] at this
  left := (hl.set m).below ((Below.refl _ _).alloc (Nat.le_refl _) _)
  keeps := (Keeps.setCell W Bl 0 _).trans (Keeps.alloc (S := fun _ => False) _ _) (fun _ _ h => h.elim)
set_option maxRecDepth 100000 in
set_option maxHeartbeats 4000000 in
/-- further, of a table -/
theorem further_table (Bl By : Nat) (virt : Nat) (lev : Int) (x : Ent) (why : Int) (left : Nat) (W : World) (hx : x.2.1 = true) (h1 : 1 ≤ left) (h2 : left ≤ 9223372036854775807) (hl : LeftAt W Bl left) :
    Calls Tryz.prog 50 #[SltV virt lev x why, .pointer (some ⟨Bl, 0, none⟩), .pointer (some ⟨By, 0, none⟩)] W fun e W' => e = .returned (.bool (decide (1 < left))) ∧ LeftAt W' Bl (left - 1) ∧ Keeps (fun k => k = Bl) W W' := by
  obtain ⟨f0, b1, b2, b3, b4⟩ := x
  dsimp only at hx
  subst hx
  unfold SltV
  dsimp only
  have HL := Lib.hid hl
  have hlt := hl.lt
  have c0 := hl.cell
  have z0 := hl.frozen
  clear hl
  obtain ⟨m, hm⟩ : ∃ m, m = left - 1 := ⟨_, rfl⟩
  have hmi : (left : Int) - 1 = (m : Int) := by omega
  have hw : IntKind.i64.wrap ((left : Int) - 1) = (m : Int) := by rw [hmi, IntKind.wrap_i64]; omega
  have hd : decide (0 < m) = decide (1 < left) := by rw [hm]; congr 1; exact propext ⟨fun h => by omega, fun h => by omega⟩
  rw [← hd, ← hm]
  clear hd hm
  go_enter Tryz.func50, Tryz.ntmps50
  go_wp2_with fail
  obtain ⟨W2, hW2⟩ : ∃ W2, (W.setCell ⟨Bl, 0, none⟩ (.int .i64 (m : Int))).alloc (Obj.cells #[.int .u64 (virt : Int), .int .i64 lev, .int .u64 (f0 : Int), .bool true, .bool b2, .bool b3, .bool b4, .int .i64 why] 114) = W2 := ⟨_, rfl⟩
  have HF : Hid (Fw W W2 Bl virt lev (f0, true, b2, b3, b4) why m) := hW2 ▸ Fw.of HL.out virt lev (f0, true, b2, b3, b4) why m
  rw [hW2]
  clear hW2
  clear c0 z0
  obtain ⟨s0, s1, s2, s3, s4, s5, s6, s7⟩ := HF.out.box.cells
  dsimp only at s0 s1 s2 s3 s4 s5 s6 s7
  have c0 := HF.out.left.cell
  go_quiet (fail)
  go_wp2_with fail
  go_ret
  exact ⟨rfl, HF.out.left.below (below_drewNn _ _), HF.out.keeps.trans (Keeps.of_below (S := fun _ => False) (below_drewNn _ _)) (fun _ _ h => h.elim)⟩
end Go.Proofs.YtlplbbnicfeoaaaGreat
