/- look: an entry of a table in a machine's memory. Own work. -/
import Derived.Test.YtehedllcdpjebaaWkEnt
import Derived.Test.YtehedllcdpjebaaBAcc
namespace Go.Proofs.Ytehedllcdpjebaa
open Go.RowKit Go.Maps Go.Proofs.Ytehedllcdpjebaa.Sp Wk
theorem BoxE.keeps {Z : Nat → Prop} {w w' : World} {g : Nat} {x : Ent} (h : BoxE w g x) (hk : Keeps Z w w') (hn : ¬ Z g) : BoxE w' g x := (hk.block g h.lt hn).trans h
theorem BoxE.frozen {w : World} {g : Nat} {x : Ent} (h : BoxE w g x) (i : Nat) : w.frozen? ⟨g, i, none⟩ = false := by
  have h' : w.heap[g]? = _ := h
  simp [World.frozen?, h']
/-- an entry, written over another -/
def putE (w : World) (g : Nat) (x : Ent) : World := ((((w.setCell ⟨g, 0, none⟩ (.int .u64 (x.1 : Int))).setCell ⟨g, 1, none⟩ (.bool x.2.1)).setCell ⟨g, 2, none⟩ (.bool x.2.2.1)).setCell ⟨g, 3, none⟩ (.bool x.2.2.2.1)).setCell ⟨g, 4, none⟩ (.bool x.2.2.2.2)
theorem putE_keeps (w : World) (g : Nat) (x : Ent) : Keeps (fun j => j = g) w (putE w g x) :=
  ((((Keeps.setCell w g 0 _).trans (Keeps.setCell _ g 1 _) (fun _ _ e => e)).trans (Keeps.setCell _ g 2 _) (fun _ _ e => e)).trans (Keeps.setCell _ g 3 _) (fun _ _ e => e)).trans (Keeps.setCell _ g 4 _) (fun _ _ e => e)
theorem BoxE.put {w : World} {g : Nat} {y : Ent} (h : BoxE w g y) (x : Ent) : BoxE (putE w g x) g x := by
  have h' : w.heap[g]? = _ := h
  simp [BoxE, putE, World.setCell, Array.getElem?_modify, h']
/-- a machine as a Memory -/
def MemV (m : Nat) : Value := .iface 22 (.pointer (some ⟨m, 0, none⟩))
/-- eight bytes of a machine, or that they are not on the bus -/
def LookR (rs : List Sp) (M : Nat → Nat) (a : Nat) (l : Int) (r : Ent × Int) (b : Bool) : Prop := ∃ x, OffR rs a 8 x b ∧ r = if b then (no, 42) else entB (Pl.num 8 (rdTo M a 8 8)) l
set_option maxRecDepth 100000 in
set_option maxHeartbeats 4000000 in
theorem look_any {w : World} {m B : Nat} {V : Value × Value × Value} {T : Nat → Option Nat} {M : Nat → Nat} {rs ds : List Sp} {L S X t k : Nat} {l : Int} (h : Mac w m B V T M rs ds L S X) (ht : t + 8 * k ≤ 18446744073709551615) (hX : X ≤ 4611686018427387904) :
    Calls Try.prog 35 #[MemV m, .int .u64 (t : Int), .int .u64 (k : Int), .int .i64 l] w fun e w' => ∃ r b, e = .returned (.tuple #[EntV r.1, .int .i64 r.2]) ∧ LookR (rs ++ ds) M (t + 8 * k) l r b ∧ Mac w' m B V T M rs ds L S (up b X) ∧ Keeps (fun j => j = m) w w' := by
  have HM : Hid (Mac w m B V T M rs ds L S X) := h
  clear h
  have hme : ∀ (w : World) (p : Option Addr), (method 272 22 (.pointer p) "Peek").run Try.prog w = .ok (105, .pointer p) w := fun _ _ => by kernel_rfl
  obtain ⟨a, ha⟩ : ∃ a, a = t + 8 * k := ⟨_, rfl⟩
  have hai : (t : Int) + 8 * (k : Int) = (a : Int) := by omega
  have HPk : Hid (∀ W, Below w.heap.size w W → Calls Try.prog 105 #[.pointer (some ⟨m, 0, none⟩), .int .u64 (a : Int), .int .i64 8] W (PeekPost W m B V T M rs ds L S X a 8)) := fun W hW => peek_any (HM.out.below hW) (by omega) (.inr (.inr (.inr rfl))) hX
  have HEn : Hid (∀ e : Nat, e < 18446744073709551616 → ∀ W, Calls Try.prog 52 #[.int .u64 (e : Int), .int .i64 l] W (EntPost W (entB e l))) := fun e he W => entry_any he l W
  rw [← ha]
  clear ha
  unfold MemV
  go_enter Try.func35, Try.ntmps35
  go_wp2_with fail
  refine (HPk.out _ ((Below.refl _ _).alloc (Nat.le_refl _) _)).mono ?_
  rintro e w1 ⟨x, b, ho, rfl, hm1, hk1⟩
  have hml := HM.out.lt
  have HOff : Hid (OffR (rs ++ ds) a 8 x b) := ho
  have HX1 : Hid (BoxE w1 w.heap.size no) := (BoxE.new w no).keeps hk1 (by omega)
  have HM1 : Hid (Mac w1 m B V T M rs ds L S (up b X)) := hm1
  have HK1 : Hid (Keeps (fun j => j = m) w w1) := (Keeps.alloc (S := fun j => j = m) w _).trans hk1 (fun _ _ e => e)
  have hne : w.heap.size ≠ w1.heap.size := Nat.ne_of_lt HX1.out.lt
  have hlt1 := HX1.out.lt
  clear ho hm1 hk1 HPk
  unfold FaultV
  cases b with
  | true =>
    simp only [if_true]
    obtain ⟨W2, hW2⟩ : ∃ W2, w1.alloc (Obj.cells #[.int .i64 30, .int .u64 x] 27) = W2 := ⟨_, rfl⟩
    have HF2 : Hid (BoxF W2 w1.heap.size 30 x) := hW2 ▸ BoxF.new w1 30 x
    have HX2 : Hid (BoxE W2 w.heap.size no) := hW2 ▸ HX1.out.below ((Below.refl _ _).alloc (Nat.le_refl _) _)
    have HB2 : Hid (Below w1.heap.size w1 W2) := hW2 ▸ (Below.refl _ _).alloc (Nat.le_refl _) _
    obtain ⟨y0, y1, _, _⟩ := HF2.out.cells
    obtain ⟨x0, x1, x2, x3, x4⟩ := HX2.out.cells
    have f0 := HX2.out.frozen 0
    have f1 := HX2.out.frozen 1
    have f2 := HX2.out.frozen 2
    have f3 := HX2.out.frozen 3
    have f4 := HX2.out.frozen 4
    go_wp2_with fail
    obtain ⟨d0, d1, d2, d3, d4⟩ := (HX2.out.put no).cells
    refine (fun (h : bodyPost _ _ _ _ _ (putE W2 w.heap.size no)) => h) ?_
    refine bodyPost_ret (v := .tuple #[EntV no, .int .i64 42]) (by simp [results, Try.results35, go_sem, EntV, d0, d1, d2, d3, d4]) rfl ?_
    exact ⟨(no, 42), true, rfl, ⟨x, HOff.out, rfl⟩, (HM1.out.below HB2.out).keeps (putE_keeps _ _ _) (fun j hj e => by have := HM.out.mine_lt hj; omega), (HK1.out.trans (Keeps.of_below (S := fun _ => False) HB2.out) (fun _ _ h => h.elim)).trans (putE_keeps _ _ _) (fun i hi e => absurd e (by omega))⟩
  | false =>
    simp only [Bool.false_eq_true, if_false]
    obtain ⟨num, hnum⟩ : ∃ num, num = Pl.num 8 (rdTo M a 8 8) := ⟨_, rfl⟩
    rw [← hnum]
    have HNum : Hid (num = Pl.num 8 (rdTo M a 8 8)) := hnum
    have hlt : num < 18446744073709551616 := by
      rw [hnum]
      exact Pl.acc_lt (rdTo_small HM.out.held.2.2.2.2.1 _ _ _) 0 8
    clear hnum
    obtain ⟨W2, hW2⟩ : ∃ W2, w1.alloc (Obj.cells #[.int .i64 0, .int .u64 x] 27) = W2 := ⟨_, rfl⟩
    have HF2 : Hid (BoxF W2 w1.heap.size 0 x) := hW2 ▸ BoxF.new w1 0 x
    have HX2 : Hid (BoxE W2 w.heap.size no) := hW2 ▸ HX1.out.below ((Below.refl _ _).alloc (Nat.le_refl _) _)
    have HB2 : Hid (Below w1.heap.size w1 W2) := hW2 ▸ (Below.refl _ _).alloc (Nat.le_refl _) _
    obtain ⟨y0, y1, _, _⟩ := HF2.out.cells
    go_wp2_with fail
    refine (HEn.out num hlt _).mono ?_
    rintro e w2 ⟨rfl, hb2⟩
    have HX3 : Hid (BoxE w2 w.heap.size no) := HX2.out.below hb2
    have HB3 : Hid (Below W2.heap.size W2 w2) := hb2
    clear hb2
    obtain ⟨x0, x1, x2, x3, x4⟩ := HX3.out.cells
    have f0 := HX3.out.frozen 0
    have f1 := HX3.out.frozen 1
    have f2 := HX3.out.frozen 2
    have f3 := HX3.out.frozen 3
    have f4 := HX3.out.frozen 4
    obtain ⟨⟨⟨q0, q1, q2, q3, q4⟩, q5⟩, hq⟩ : ∃ q, q = entB num l := ⟨_, rfl⟩
    rw [← hq]
    unfold EntV
    go_wp2_with fail
    obtain ⟨d0, d1, d2, d3, d4⟩ := (HX3.out.put (q0, q1, q2, q3, q4)).cells
    refine (fun (h : bodyPost _ _ _ _ _ (putE w2 w.heap.size (q0, q1, q2, q3, q4))) => h) ?_
    refine bodyPost_ret (v := .tuple #[EntV (q0, q1, q2, q3, q4), .int .i64 q5]) (by simp [results, Try.results35, go_sem, EntV, d0, d1, d2, d3, d4]) rfl ?_
    refine ⟨((q0, q1, q2, q3, q4), q5), false, rfl, ⟨x, HOff.out, by rw [hq, HNum.out]; rfl⟩, ((HM1.out.below HB2.out).below HB3.out).keeps (putE_keeps _ _ _) (fun j hj e => by have := HM.out.mine_lt hj; omega), ((HK1.out.trans (Keeps.of_below (S := fun _ => False) HB2.out) (fun _ _ h => h.elim)).trans (Keeps.of_below (S := fun _ => False) HB3.out) (fun _ _ h => h.elim)).trans (putE_keeps _ _ _) (fun i hi e => absurd e (by omega))⟩
end Go.Proofs.Ytehedllcdpjebaa
