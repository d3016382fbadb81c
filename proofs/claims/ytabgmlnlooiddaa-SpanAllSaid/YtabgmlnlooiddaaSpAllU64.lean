/- All's iterator, and what it tells. Own work. -/
import Derived.Test.YtabgmlnlooiddaaSpBaseU64
import Derived.RangeFuncNested
import Derived.RangeFuncBound
import Derived.RangeFuncCalls
import Derived.RangeFuncLeaves
import Derived.Shelf.Abstract
import Derived.Shelf.RegionOpen
import Derived.WalkKit
import Derived.OwnWalkIn
import Derived.TacticsInMore
import Derived.LoopNIn
import Derived.LoopIn
namespace Go.Proofs.Ytabgmlnlooiddaa.U64
open Go.RowKit Go.Shelf Go.Proofs.Ytabgmlnlooiddaa.Sp
attribute [local go_sem] Oper.semAt_some
/-- a slice of spans in a block below n, or none -/
def SpansAt (n : Nat) (W : World) (v : Value) (xs : List Sp) : Prop :=
  (v = .slice none 0 0 ∧ xs = []) ∨ ∃ g off cap, v = .slice (some ⟨g, off, none⟩) xs.length cap ∧ g < n ∧ xs.length ≤ cap ∧ cap ≤ maxLen ∧ ∀ j (h : j < xs.length), W.cell? ⟨g, off + j * 2, none⟩ = some (.int .u64 xs[j].1) ∧ W.cell? ⟨g, off + j * 2 + 1, none⟩ = some (.int .u64 xs[j].2)
theorem SpansAt.below {n : Nat} {A B : World} (h : Below n A B) {v : Value} {xs : List Sp} : SpansAt n A v xs → SpansAt n B v xs
  | .inl e => .inl e
  | .inr ⟨g, off, cap, e, hg, hl, hm, hc⟩ => .inr ⟨g, off, cap, e, hg, hl, hm, fun j hj => ⟨(h.cell (p := ⟨g, off + j * 2, none⟩) hg).trans (hc j hj).1, (h.cell (p := ⟨g, off + j * 2 + 1, none⟩) hg).trans (hc j hj).2⟩⟩
theorem SpansAt.up {n m : Nat} {A : World} {v : Value} {xs : List Sp} (h : SpansAt n A v xs) (hm : n ≤ m) : SpansAt m A v xs := h.imp id fun ⟨g, off, cap, e, hg, h⟩ => ⟨g, off, cap, e, by omega, h⟩
theorem SV.spans {w : World} {v : Value} {xs : List Sp} (h : SV w v xs) {n : Nat} (hn : w.heap.size ≤ n) : SpansAt n w v xs := by
  obtain ⟨ao, cap, rfl, h1, h2, h3, h4, h5⟩ := h
  cases ao with
  | none =>
    obtain ⟨rfl, rfl⟩ := h3 rfl
    exact .inl ⟨rfl, rfl⟩
  | some a =>
    obtain ⟨g, off, rfl, hg⟩ := h4 a rfl
    refine .inr ⟨g, off, cap, rfl, by omega, h1, h2, fun j hj => ?_⟩
    obtain ⟨g', off', e, c0, c1⟩ := h5 j hj
    cases e
    exact ⟨c0, c1⟩
def encS (x : Sp) : Array Value := #[.agg #[.int .u64 x.1, .int .u64 x.2]]
set_option maxRecDepth 100000 in
set_option maxHeartbeats 2000000 in
theorem all1_in (F : Fence) (n : Nat) (hf : F.fn 15) (hro : F.round = none) (hn : 1 ≤ n) (l Bs n₀ g off cap : Nat) (xs : List Sp) (hl : xs.length ≤ cap) (hm : cap ≤ maxLen) (hg : g < n₀) (J Jx : List Sp → World → Prop) (hJa : ∀ pre A o, J pre A → J pre (A.alloc o))
    (hY : ∀ pre x W, J pre W → pre.length < xs.length → YieldAt F (n - 1) Try.prog l (encS x) W fun e W' =>
      (e = .returned (.bool true) ∧ J (pre ++ [x]) W' ∧ Below n₀ W W') ∨ (e = .returned (.bool false) ∧ Jx (pre ++ [x]) W'))
    (W : World) (hle : n₀ ≤ W.heap.size) (hBs : W.cell? ⟨Bs, 0, none⟩ = some (.slice (some ⟨g, off, none⟩) xs.length cap)) (hc : ∀ j (h : j < xs.length), W.cell? ⟨g, off + j * 2, none⟩ = some (.int .u64 xs[j].1) ∧ W.cell? ⟨g, off + j * 2 + 1, none⟩ = some (.int .u64 xs[j].2)) (h0 : J [] W) :
    CallsIn F n Try.prog 15 #[.func (.yield l) #[] #[], .pointer (some ⟨Bs, 0, none⟩)] W fun e W' => (∃ v, e = .returned v) ∧
      ((∃ ys, ys = xs ∧ J ys W') ∨ (∃ pre, (∃ k, k ≤ xs.length ∧ pre = xs.take k) ∧ Jx pre W')) := by
  unfold maxLen at hm
  have HC : Hid (∀ wr, Below n₀ W wr → ∀ j (h : j < xs.length), wr.cell? ⟨g, off + j * 2, none⟩ = some (.int .u64 xs[j].1) ∧ wr.cell? ⟨g, off + j * 2 + 1, none⟩ = some (.int .u64 xs[j].2)) := fun wr hb j hj => ⟨(hb.cell (p := ⟨g, off + j * 2, none⟩) hg).trans (hc j hj).1, (hb.cell (p := ⟨g, off + j * 2 + 1, none⟩) hg).trans (hc j hj).2⟩
  have HY : Hid (∀ pre x W, J pre W → pre.length < xs.length → YieldAt F (n - 1) Try.prog l (encS x) W fun e W' =>
      (e = .returned (.bool true) ∧ J (pre ++ [x]) W' ∧ Below n₀ W W') ∨ (e = .returned (.bool false) ∧ Jx (pre ++ [x]) W')) := hY
  clear hY hc
  obtain ⟨N, hN⟩ : ∃ N, N = xs.length := ⟨_, rfl⟩
  have HN : Hid (N = xs.length) := hN
  rw [← hN] at hl hBs
  clear hN
  refine callsIn_of_wp Try.func15 rfl hf ?_ hro
  simp only [Try.ntmps15, List.size_toArray, List.length_cons, List.length_nil, Nat.reduceAdd, Nat.reduceSub, Array.replicate_succ, Array.replicate_zero, List.push_toArray, List.append_toArray, List.nil_append, List.cons_append]
  gi_wp2
  gi_loopw [8] (fun i wr => ∃ k : Nat, k ≤ N ∧ i = .int .i64 (k : Int) ∧ Hid (J (xs.take k) wr) ∧ Hid (Below n₀ W wr)) (fun i _ => N - (intOf i).toNat)
  case atStart => exact ⟨0, Nat.zero_le _, rfl, h0, Below.refl _ _⟩
  case round =>
    obtain ⟨k, hk, rfl, HJ, HB⟩ := hrel
    by_cases hlt : k < N
    · have hkx : k < xs.length := by have := HN.out; omega
      obtain ⟨c0, c1⟩ := HC.out wr HB.out k hkx
      obtain ⟨p, q, hx⟩ : ∃ p q, xs[k] = (p, q) := ⟨_, _, rfl⟩
      have HX : Hid (xs.take (k + 1) = xs.take k ++ [(p, q)]) := by show _ = _; rw [List.take_succ_eq_append_getElem hkx, hx]
      rw [hx] at c0 c1
      clear hx
      dsimp only at c0 c1
      obtain ⟨fn, tmps, assign, body, hy, hR⟩ := HY.out (xs.take k) (p, q) (wr.alloc (.cells #[.int .u64 p, .int .u64 q] 35)) (hJa _ _ _ HJ.out) (by rw [List.length_take]; omega)
      dsimp only [encS] at hy
      gi_wp2
      refine hR.mono ?_
      rintro e W3 (⟨rfl, hJ3, hk3⟩ | ⟨rfl, hJx3⟩)
      · have HJ3 : Hid (J (xs.take (k + 1)) W3) := by rw [HX.out]; exact hJ3
        have HB3 : Hid (Below n₀ W W3) := (HB.out.alloc (Nat.le_trans hle HB.out.size) _).trans hk3
        clear hJ3 hk3
        gi_wp2
        go_roundw
        case rel => exact ⟨k + 1, by omega, by go_num, HJ3, HB3⟩
        case measure => simp [intOf]; omega
      · have HJx : Hid (Jx (xs.take (k + 1)) W3) := by rw [HX.out]; exact hJx3
        clear hJx3
        gi_wp2
        refine bodyPost_ret (results_none rfl _ _ _) rfl ?_
        exact ⟨⟨_, rfl⟩, .inr ⟨_, ⟨k + 1, by omega, rfl⟩, HJx.out⟩⟩
    · obtain rfl : k = N := by omega
      gi_wp2
      go_end0
      exact ⟨⟨_, rfl⟩, .inl ⟨_, rfl, by have := HJ.out; rwa [List.take_of_length_le (Nat.le_of_eq HN.out.symm)] at this⟩⟩
set_option maxRecDepth 100000 in
set_option maxHeartbeats 1000000 in
theorem all1_nil (F : Fence) (n : Nat) (hf : F.fn 15) (hro : F.round = none) (l Bs : Nat) (J : List Sp → World → Prop) (W : World) (hBs : W.cell? ⟨Bs, 0, none⟩ = some (.slice none 0 0)) (h0 : J [] W) :
    CallsIn F n Try.prog 15 #[.func (.yield l) #[] #[], .pointer (some ⟨Bs, 0, none⟩)] W fun e W' => (∃ v, e = .returned v) ∧ J [] W' := by
  refine callsIn_of_wp Try.func15 rfl hf ?_ hro
  simp only [Try.ntmps15, List.size_toArray, List.length_cons, List.length_nil, Nat.reduceAdd, Nat.reduceSub, Array.replicate_succ, Array.replicate_zero, List.push_toArray, List.append_toArray, List.nil_append, List.cons_append]
  gi_wp2
  gi_loopw [8] (fun i wr => i = .int .i64 0 ∧ J [] wr) (fun _ _ => 0)
  case atStart => exact ⟨rfl, h0⟩
  case round =>
    obtain ⟨rfl, hJs⟩ := hrel
    gi_wp2
    go_end0
    exact ⟨⟨_, rfl⟩, hJs⟩
/-- what All's answer tells -/
theorem all_stops (F : Fence) (n : Nat) (hf : F.fn 15) (hro : F.round = none) (hn : 1 ≤ n) (Bs n₀ : Nat) (sv : Value) (xs : List Sp) (w : World) (hBs : Bs < w.heap.size) (hn₀ : n₀ ≤ w.heap.size)
    (hc : w.cell? ⟨Bs, 0, none⟩ = some sv) (hI : SpansAt n₀ w sv xs) :
    SeqStopsK F n Try.prog 15 #[.pointer (some ⟨Bs, 0, none⟩)] encS (Below n₀) (fun ys => ys = xs) (fun pre => ∃ k, k ≤ xs.length ∧ pre = xs.take k) xs.length w := fun l J Jx W hW hJa _ hY h0 => by
  have hc' := (hW.cell (p := ⟨Bs, 0, none⟩) hBs).trans hc
  rcases hI.below (hW.mono hn₀) with ⟨rfl, rfl⟩ | ⟨g, off, cap, rfl, hg, hl, hm, hcs⟩
  · exact (all1_nil F n hf hro l Bs J W hc' h0).mono fun e W' ⟨he, hj⟩ => ⟨he, .inl ⟨_, rfl, hj⟩⟩
  · exact all1_in F n hf hro hn l Bs n₀ g off cap xs hl hm hg J Jx (fun pre A o hj => hJa pre A _ none hj (World.grownBy_alloc A o none) (fun r e => by cases e)) hY W (Nat.le_trans hn₀ hW.size) hc' hcs h0
set_option maxHeartbeats 1000000 in
theorem all_any {w : World} {v : Value} : Calls Try.prog 8 #[.agg #[v]] w fun e w' => e = .returned (.func (.func 15) #[] #[.pointer (some ⟨w.heap.size, 0, none⟩)]) ∧ w' = w.alloc (.cells #[v] 26) := by
  go_enter Try.func8, Try.ntmps8
  go_wp2
  go_ret
  exact ⟨rfl, rfl⟩
theorem equal_func_nil (d : Nat) (w : World) (k : Nat) (xs : Array Value) : (Op.equalIn (d + 1) 32 (.func (.func k) #[] xs) .nilFunc).run Try.prog w = .ok false w := by
  have u := Try.underlying32
  unfold Op.equalIn
  simp only [Sem.run_bind, run_underlying u, Result.andThen_ok, Sem.run_pure]
theorem eql_func_nil (w : World) (k : Nat) (xs : Array Value) : (binOp .eql 32 (.func (.func k) #[] xs) .nilFunc).run Try.prog w = .ok (.bool false) w := by
  have h := equal_func_nil 9999 w k xs
  have e : binOp .eql 32 (.func (.func k) #[] xs) .nilFunc = (do pure (.bool (← Op.equalIn (9999 + 1) 32 (.func (.func k) #[] xs) .nilFunc)) : Sem Value) := by rfl
  rw [e, Sem.run_bind, h]
  rfl
end Go.Proofs.Ytabgmlnlooiddaa.U64
