import Derived.Test.YtlplbbnicfeoaaaGreatPq25
import Derived.Test.YtlplbbnicfeoaaaGreatPq01
import Derived.Test.YtlplbbnicfeoaaaGreatPq00
import Derived.Shelf.Abstract
import Derived.Shelf.RegionOpen
import Derived.WalkKit
import Derived.OwnWalkIn
import Derived.TacticsInMore
import Derived.LoopNIn
import Derived.LoopIn
/- below's iterator: the entries of a table, whatever a round does. Own work. -/
namespace Go.Proofs.YtlplbbnicfeoaaaGreat
open Go.RowKit Go.Shelf Wk Lv
attribute [local go_sem] Oper.semAt_some
/-- a slot's value -/
def SltV (virt : Nat) (lev : Int) (x : Ent) (why : Int) : Value := .agg #[.int .u64 (virt : Int), .int .i64 lev, .int .u64 (x.1 : Int), .bool x.2.1, .bool x.2.2.1, .bool x.2.2.2.1, .bool x.2.2.2.2, .int .i64 why]
/-- a slot in a block -/
def BoxS (w : World) (g virt : Nat) (lev : Int) (x : Ent) (why : Int) : Prop := w.heap[g]? = some (.cells #[.int .u64 (virt : Int), .int .i64 lev, .int .u64 (x.1 : Int), .bool x.2.1, .bool x.2.2.1, .bool x.2.2.2.1, .bool x.2.2.2.2, .int .i64 why] 114 (0, 0))
theorem BoxS.lt {w : World} {g virt : Nat} {lev : Int} {x : Ent} {why : Int} (h : BoxS w g virt lev x why) : g < w.heap.size := (Array.getElem?_eq_some_iff.1 (show w.heap[g]? = _ from h)).1
theorem BoxS.below {w w' : World} {g virt : Nat} {lev : Int} {x : Ent} {why : Int} (h : BoxS w g virt lev x why) (hb : Below w.heap.size w w') : BoxS w' g virt lev x why := (hb.block g h.lt).trans h
theorem BoxS.keeps {Z : Nat → Prop} {w w' : World} {g virt : Nat} {lev : Int} {x : Ent} {why : Int} (h : BoxS w g virt lev x why) (hk : Keeps Z w w') (hn : ¬ Z g) : BoxS w' g virt lev x why := (hk.block g h.lt hn).trans h
theorem BoxS.cells {w : World} {g virt : Nat} {lev : Int} {x : Ent} {why : Int} (h : BoxS w g virt lev x why) : w.cell? ⟨g, 0, none⟩ = some (.int .u64 (virt : Int)) ∧ w.cell? ⟨g, 1, none⟩ = some (.int .i64 lev) ∧ w.cell? ⟨g, 2, none⟩ = some (.int .u64 (x.1 : Int)) ∧ w.cell? ⟨g, 3, none⟩ = some (.bool x.2.1) ∧ w.cell? ⟨g, 4, none⟩ = some (.bool x.2.2.1) ∧ w.cell? ⟨g, 5, none⟩ = some (.bool x.2.2.2.1) ∧ w.cell? ⟨g, 6, none⟩ = some (.bool x.2.2.2.2) ∧ w.cell? ⟨g, 7, none⟩ = some (.int .i64 why) := by
  have h' : w.heap[g]? = _ := h
  simp [World.cell?, h']
theorem BoxS.new (w : World) (virt : Nat) (lev : Int) (x : Ent) (why : Int) : BoxS (w.alloc (.cells #[.int .u64 (virt : Int), .int .i64 lev, .int .u64 (x.1 : Int), .bool x.2.1, .bool x.2.2.1, .bool x.2.2.2.1, .bool x.2.2.2.2, .int .i64 why] 114)) w.heap.size virt lev x why := by
  show (w.heap.push _)[w.heap.size]? = _
  simp
set_option maxRecDepth 100000 in
set_option maxHeartbeats 4000000 in
theorem below1_in (n : Nat) (l Bs Bm : Nat) (virt lev : Nat) (x : Ent) (why : Int) (mv : Value) (hlev : lev ≤ 2) (hv : virt + 512 * rch lev < 18446744073709551616) (ht : x.2.1 = true)
    (J K : Nat → World → Prop) (Jx : World → Prop) (r : Nat → Ent × Int) (b : Nat → Bool)
    (hJb : ∀ i W, J i W → BoxS W Bs virt ((lev : Int) - 1) x why ∧ W.cell? ⟨Bm, 0, none⟩ = some mv) (hKb : ∀ i W, K i W → BoxS W Bs virt ((lev : Int) - 1) x why)
    (hKa : ∀ i W W', K i W → Below W.heap.size W W' → K i W')
    (hre : ∀ W, Calls Tryz.prog 80 #[.int .i64 (lev : Int)] W fun e w' => e = .returned (.int .u64 (rch lev : Nat)) ∧ Below W.heap.size W w')
    (hlk : ∀ i W, i < 512 → J i W → Calls Tryz.prog 79 #[mv, .int .u64 (x.1 : Int), .int .u64 (i : Int), .int .i64 (lev : Int)] W fun e w' => e = .returned (.tuple #[EntV (r i).1, .int .i64 (r i).2]) ∧ K i w')
    (hab : ∀ i W, i < 512 → (r i).2 = 41 → K i W → J (i + 1) W)
    (hyd : ∀ i W, i < 512 → (r i).2 ≠ 41 → K i W → YieldAt Fence.wide (n - 1) Tryz.prog l #[SltV (virt + i * rch lev) (lev : Int) (r i).1 (r i).2] W fun e W' => e = .returned (.bool (b i)) ∧ (b i = true → J (i + 1) W') ∧ (b i = false → Jx W'))
    (W : World) (h0 : J 0 W) :
    CallsIn Fence.wide n Tryz.prog 78 #[.func (.yield l) #[] #[], .pointer (some ⟨Bs, 0, none⟩), .pointer (some ⟨Bm, 0, none⟩)] W fun e W' => (∃ v, e = .returned v) ∧ (J 512 W' ∨ Jx W') := by
  have HJb : Hid (∀ i W, J i W → BoxS W Bs virt ((lev : Int) - 1) x why ∧ W.cell? ⟨Bm, 0, none⟩ = some mv) := hJb
  have HKb : Hid (∀ i W, K i W → BoxS W Bs virt ((lev : Int) - 1) x why) := hKb
  have HKa : Hid (∀ i W W', K i W → Below W.heap.size W W' → K i W') := hKa
  have HRe : Hid (∀ W, Calls Tryz.prog 80 #[.int .i64 (lev : Int)] W fun e w' => e = .returned (.int .u64 (rch lev : Nat)) ∧ Below W.heap.size W w') := hre
  have HLk : Hid (∀ i W, i < 512 → J i W → Calls Tryz.prog 79 #[mv, .int .u64 (x.1 : Int), .int .u64 (i : Int), .int .i64 (lev : Int)] W fun e w' => e = .returned (.tuple #[EntV (r i).1, .int .i64 (r i).2]) ∧ K i w') := hlk
  have HAb : Hid (∀ i W, i < 512 → (r i).2 = 41 → K i W → J (i + 1) W) := hab
  have HYd : Hid (∀ i W, i < 512 → (r i).2 ≠ 41 → K i W → YieldAt Fence.wide (n - 1) Tryz.prog l #[SltV (virt + i * rch lev) (lev : Int) (r i).1 (r i).2] W fun e W' => e = .returned (.bool (b i)) ∧ (b i = true → J (i + 1) W') ∧ (b i = false → Jx W')) := hyd
  clear hJb hKb hKa hre hlk hab hyd
  have HJ0 : Hid (J 0 W) := h0
  obtain ⟨⟨s0, s1, s2, s3, s4, s5, s6, s7⟩, hm0⟩ := (fun h => (⟨h.1.cells, h.2⟩ : _ ∧ _)) (HJb.out 0 W h0)
  have hmx : Tryz.prog.follows .mixedOrders = true := by kernel_rfl
  clear h0
  rw [ht] at s3
  refine callsIn_of_wp Tryz.func78 rfl trivial ?_ rfl
  simp only [Tryz.ntmps78, List.size_toArray, List.length_cons, List.length_nil, Nat.reduceAdd, Nat.reduceSub, Array.replicate_succ, Array.replicate_zero, List.push_toArray, List.append_toArray, List.nil_append, List.cons_append]
  gi_wp2
  gi_loopw [15] (fun p wr => ∃ k : Nat, k ≤ 512 ∧ p = .int .u64 (k : Int) ∧ Hid (J k wr)) (fun p _ => 512 - (intOf p).toNat)
  case atStart => exact ⟨0, Nat.zero_le _, rfl, HJ0⟩
  case round =>
    obtain ⟨k, hk, rfl, HJ⟩ := hrel
    clear HJ0 s0 s1 s2 s3 s4 s5 s6 s7 hm0
    obtain ⟨⟨s0, s1, s2, s3, s4, s5, s6, s7⟩, hm0⟩ := (fun h => (⟨h.1.cells, h.2⟩ : _ ∧ _)) (HJb.out k wr HJ.out)
    by_cases hlt : k < 512
    · have hlk := HLk.out k wr hlt HJ.out
      have HAk : Hid ((r k).2 = 41 → ∀ W, K k W → J (k + 1) W) := fun e W hK => HAb.out k W hlt e hK
      have HYk : Hid (∀ W, (r k).2 ≠ 41 → K k W → YieldAt Fence.wide (n - 1) Tryz.prog l #[SltV (virt + k * rch lev) (lev : Int) (r k).1 (r k).2] W fun e W' => e = .returned (.bool (b k)) ∧ (b k = true → J (k + 1) W') ∧ (b k = false → Jx W')) := fun W hn hK => HYd.out k W hlt hn hK
      obtain ⟨bk, hbk⟩ : ∃ bk, bk = b k := ⟨_, rfl⟩
      rw [← hbk] at HYk
      clear hbk
      generalize r k = rk at hlk HAk HYk
      obtain ⟨⟨f0, b1, b2, b3, b4⟩, wy⟩ := rk
      dsimp only [EntV] at hlk
      have HLk' : Hid (Calls Tryz.prog 79 #[mv, .int .u64 (x.1 : Int), .int .u64 (k : Int), .int .i64 (lev : Int)] wr _) := hlk
      clear hlk HLk HAb HYd
      obtain ⟨q, hq⟩ : ∃ q, q = k * rch lev := ⟨_, rfl⟩
      have hq2 : q ≤ 512 * rch lev := by rw [hq]; exact Nat.mul_le_mul_right _ (by omega)
      have hqi : (k : Int) * (rch lev : Int) = (q : Int) := by rw [hq]; simp
      have hw1 : IntKind.u64.wrap ((k : Int) * (rch lev : Int)) = (q : Int) := by rw [hqi, IntKind.wrap_u64]; omega
      have hw2 : IntKind.u64.wrap ((virt : Int) + (q : Int)) = ((virt + q : Nat) : Int) := by rw [IntKind.wrap_u64]; omega
      rw [← hq] at HYk
      clear hq hqi hq2
      by_cases h41 : wy = 41
      · subst h41
        gi_wp2_with (refine ⟨trivial, fun h => absurd h (by decide), ?_⟩; refine (callsIn_wide.2 HLk'.out).mono ?_; rintro e w1 ⟨rfl, hK1⟩; have HK1 : Hid (K k w1) := hK1; clear hK1 HLk')
        exact ⟨⟨k + 1, by omega, by go_num, HAk.out (by simp) _ (HKa.out _ _ _ HK1.out ((Below.refl _ _).alloc (Nat.le_refl _) _))⟩, by simp [intOf]; omega⟩
      · have h41b : (wy == 41) = false := by simpa using h41
        have h41c : decide (wy = 41) = false := by simpa using h41
        gi_wp2_with (refine ⟨trivial, fun h => absurd h (by decide), ?_⟩; refine (callsIn_wide.2 HLk'.out).mono ?_; rintro e w1 ⟨rfl, hK1⟩; have HK1 : Hid (K k w1) := hK1; clear hK1 HLk')
        clear s0 s1 s2 s3 s4 s5 s6 s7 hm0
        obtain ⟨W2, hW2⟩ : ∃ W2, w1.alloc (Obj.cells #[.int .u64 (f0 : Int), .bool b1, .bool b2, .bool b3, .bool b4] 87) = W2 := ⟨_, rfl⟩
        have HE2 : Hid (BoxE W2 w1.heap.size (f0, b1, b2, b3, b4)) := hW2 ▸ BoxE.new w1 (f0, b1, b2, b3, b4)
        have HK2 : Hid (K k W2) := hW2 ▸ HKa.out _ _ _ HK1.out ((Below.refl _ _).alloc (Nat.le_refl _) _)
        rw [hW2]
        clear hW2
        obtain ⟨s0, s1, s2, s3, s4, s5, s6, s7⟩ := (HKb.out k W2 HK2.out).cells
        obtain ⟨e0, e1, e2, e3, e4⟩ := HE2.out.cells
        dsimp only at e0 e1 e2 e3 e4
        have HY2 : Hid (∀ W, Below W2.heap.size W2 W → YieldAt Fence.wide (n - 1) Tryz.prog l #[SltV (virt + q) (lev : Int) (f0, b1, b2, b3, b4) wy] W fun e W' => e = .returned (.bool bk) ∧ (bk = true → J (k + 1) W') ∧ (bk = false → Jx W')) := fun W hW => HYk.out W h41 (HKa.out _ _ _ HK2.out hW)
        have HS2 : Hid (∀ W, Below W2.heap.size W2 W → BoxS W Bs virt ((lev : Int) - 1) x why ∧ BoxE W w1.heap.size (f0, b1, b2, b3, b4)) := fun W hW => ⟨(HKb.out k W2 HK2.out).below hW, HE2.out.below hW⟩
        clear HYk HAk HKb HKa HK1 HK2 HJb HJ
        cases bk
        all_goals gi_region_with_o (first
          | (refine ⟨trivial, fun h => absurd h (by decide), ?_⟩; refine (callsIn_wide.2 (HRe.out _)).mono ?_; rintro e w3 ⟨rfl, hb3⟩; have hb3' := (Below.drew (Below.refl _ W2)).trans hb3; obtain ⟨fn, tmps, assign, body, hy, hR⟩ := HY2.out w3 hb3'; obtain ⟨t0, t1, t2, t3, t4, t5, t6, t7⟩ := (HS2.out w3 hb3').1.cells; obtain ⟨d0, d1, d2, d3, d4⟩ := (HS2.out w3 hb3').2.cells; dsimp only [SltV] at hy; rw [Int.natCast_add] at hy; dsimp only at d0 d1 d2 d3 d4; have HR3 := Lib.hid hR; clear hR)
          | (refine ⟨fun h => absurd h (by decide), ?_⟩; refine HR3.out.mono ?_; rintro e W5 ⟨rfl, hJ5, hX5⟩; have HJ5 := Lib.hid hJ5; have HX5 := Lib.hid hX5; clear hJ5 hX5))
        all_goals (
          gi_wp2
          first
            | exact ⟨⟨k + 1, by omega, by go_num, HJ5.out (by simp)⟩, by simp [intOf]; omega⟩
            | (refine bodyPost_ret (results_none rfl _ _ _) rfl ?_
               exact ⟨⟨_, rfl⟩, .inr (HX5.out (by simp))⟩))
    · obtain rfl : k = 512 := by omega
      gi_wp2
      go_end0
      exact ⟨⟨_, rfl⟩, .inl HJ.out⟩
end Go.Proofs.YtlplbbnicfeoaaaGreat
