/- Same. Own work. -/
import Derived.Test.YtogcpogoamoljaaSpAskU8
namespace Go.Proofs.Ytogcpogoamoljaa.U8
open Go.RowKit Go.Shelf Go.Proofs.Ytogcpogoamoljaa.Sp

def eqS (x y : Sp) : Bool := x.1 == y.1 && x.2 == y.2
theorem neqS : NeqAt Try.prog 28 (fun x => .agg (enc x).toArray) eqS := by
  refine ⟨fun x y w => ?_, GuardAt.agg _ (by kernel_rfl)⟩
  have u := Try.underlying5
  have a := Try.isAgg5
  have z := Try.sizeOf5
  have hS : Try.prog.underlying 28 = some (.struct (Try.prog.fieldsOf 28)) := by kernel_rfl
  have hp : Try.prog.stoodInHeld 28 = false := by kernel_rfl
  simp only [enc]
  rw [run_neq_struct, show (10000 : Nat) = 9999 + 1 from rfl, run_equalIn_agg w 9999 28 _ _ hS hp]
  simp only [Program.fieldsOf, Try.underlying28]
  go_simp
  by_cases h1 : x.fst = y.fst <;> by_cases h2 : x.snd = y.snd <;> simp [h1, h2, eqS]
theorem allEq_iff (xs ys : List Sp) : Lib.allEq eqS xs ys = decide (xs = ys) := by
  induction xs generalizing ys with
  | nil => cases ys <;> simp [Lib.allEq]
  | cons x xs ih =>
    cases ys with
    | nil => simp [Lib.allEq]
    | cons y ys =>
      rw [Lib.allEq, ih ys]
      obtain ⟨x1, x2⟩ := x
      obtain ⟨y1, y2⟩ := y
      by_cases h1 : x1 = y1 <;> by_cases h2 : x2 = y2 <;> by_cases h3 : xs = ys <;> simp [eqS, h1, h2, h3]
set_option maxHeartbeats 1000000 in
theorem equal_none {w : World} (a1 a2 : Option Addr) (n m c d : Nat) (h : n = 0 ∨ m = 0) (hn : n ≤ 9223372036854775807) (hm : m ≤ 9223372036854775807) :
    Calls Try.prog 29 #[.slice a1 n c, .slice a2 m d] w fun e w' => e = .returned (.bool (decide (n = m))) ∧ ∃ q, w' = w.drewN q := by
  by_cases hnm : n = m
  · obtain rfl : n = 0 := by omega
    subst hnm
    go_enter Try.func29, Try.ntmps29
    go_wp2
    go_loop [13] (fun i => i = .int .i64 0) (fun _ => 0)
    case atStart => rfl
    case round =>
      subst hrel
      go_wp2
      go_ret
      exact ⟨rfl, 0, rfl⟩
  · have hd : ((n : Int) == (m : Int)) = false := by simp; omega
    have hd2 : decide (n = m) = false := decide_eq_false hnm
    rw [hd2]
    go_enter Try.func29, Try.ntmps29
    go_wp2
    go_ret
    exact ⟨rfl, 0, rfl⟩

theorem equal_any {w : World} {u v : Value} {xs ys : List Sp} (hu : SV w u xs) (hv : SV w v ys) :
    Calls Try.prog 29 #[u, v] w fun e w' => e = .returned (.bool (decide (xs = ys))) ∧ ∃ q, w' = w.drewN q := by
  obtain ⟨ao, cap, rfl, h1, h2, h3, h4, h5⟩ := hu
  obtain ⟨bo, cap', rfl, k1, k2, k3, k4, k5⟩ := hv
  unfold maxLen at h2 k2
  by_cases hz : xs.length = 0 ∨ ys.length = 0
  · refine (equal_none ao bo xs.length ys.length cap cap' hz (by omega) (by omega)).mono ?_
    rintro e w' ⟨rfl, hw⟩
    refine ⟨?_, hw⟩
    congr 3
    apply propext
    constructor
    · intro e
      rw [List.eq_nil_of_length_eq_zero (l := xs) (by omega), List.eq_nil_of_length_eq_zero (l := ys) (by omega)]
    · intro e; rw [e]
  · obtain ⟨g, off, rfl, _⟩ := h5 0 (by omega)
    obtain ⟨g', off', rfl, _⟩ := k5 0 (by omega)
    have := AnyQ.slices_Equal equalU8 2 Try.isAgg28 Try.sizeOf28 enc (fun _ => rfl) eqS neqS g off xs.length cap g' off' ys.length cap' xs ys w (Nat.le_refl _) (Nat.le_refl _) (by omega) (by omega)
      (fun j hj i v hi => by
        obtain ⟨g2, off2, e2, c0, c1⟩ := h5 j hj
        cases e2
        rw [getElem!_pos xs j hj] at hi
        match i, hi with
        | 0, hi => rw [Nat.add_zero, c0]; exact hi
        | 1, hi => rw [c1]; exact hi)
      (fun j hj i v hi => by
        obtain ⟨g2, off2, e2, c0, c1⟩ := k5 j hj
        cases e2
        rw [getElem!_pos ys j hj] at hi
        match i, hi with
        | 0, hi => rw [Nat.add_zero, c0]; exact hi
        | 1, hi => rw [c1]; exact hi)
    refine Calls.mono this ?_
    rintro e w' ⟨rfl, hw⟩
    exact ⟨by rw [List.take_length, List.take_length, allEq_iff], hw⟩
set_option maxHeartbeats 1000000 in
theorem same_any {w : World} {u v : Value} {xs ys : List Sp} (hu : SV w u xs) (hv : SV w v ys) :
    Calls Try.prog 15 #[.agg #[u], .agg #[v]] w fun e w' => e = .returned (.bool (decide (xs = ys))) ∧ Below w.heap.size w w' := by
  have HC : Hid (∀ X Y, Calls Try.prog 29 #[u, v] ((w.alloc X).alloc Y) fun e w' => e = .returned (.bool (decide (xs = ys))) ∧ ∃ q, w' = ((w.alloc X).alloc Y).drewN q) := fun X Y => equal_any ((hu.alloc X).alloc Y) ((hv.alloc X).alloc Y)
  have HB0 : Hid (∀ a b, Below w.heap.size w ((w.alloc a).alloc b)) := fun a b => ((Below.refl _ _).alloc (Nat.le_refl _) _).alloc (by simp) _
  generalize decide (xs = ys) = b at HC ⊢
  clear hu hv
  go_enter Try.func15, Try.ntmps15
  go_wp2_with fail
  refine (HC.out _ _).mono ?_
  rintro e w2 ⟨rfl, q, rfl⟩
  clear HC
  go_wp2_with fail
  go_ret
  exact ⟨rfl, below_drewN' (HB0.out _ _) _⟩
end Go.Proofs.Ytogcpogoamoljaa.U8
