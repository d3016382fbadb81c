/- Pages: the builder (written by parts/gen_pgbld.py). Own work. -/
import Derived.Test.YtjfpdphedpnelaaPgWord
import Derived.Test.YtjfpdphedpnelaaPgTab
import Derived.RegionTactic
import Derived.Deep.DeepCutAuto
namespace Go.Proofs.Ytjfpdphedpnelaa
open Go.RowKit
set_option linter.unusedVariables false
/-- the builder's block -/
def Bb (w : World) (B : Nat) (o0 o1 o2 r : Value) (at' : Nat) : Prop := w.heap[B]? = some (.cells #[o0, o1, o2, r, .int .u64 (at' : Int)] 87 (0, 0))
theorem Bb.lt {w : World} {B : Nat} {o0 o1 o2 r : Value} {a : Nat} (h : Bb w B o0 o1 o2 r a) : B < w.heap.size := (Array.getElem?_eq_some_iff.1 h).1
theorem Bb.cells {w : World} {B : Nat} {o0 o1 o2 r : Value} {a : Nat} (h : Bb w B o0 o1 o2 r a) : w.cell? ⟨B, 0, none⟩ = some o0 ∧ w.cell? ⟨B, 1, none⟩ = some o1 ∧ w.cell? ⟨B, 2, none⟩ = some o2 ∧ w.cell? ⟨B, 3, none⟩ = some r ∧ w.cell? ⟨B, 4, none⟩ = some (.int .u64 (a : Int)) := by
  have h' : w.heap[B]? = _ := h
  refine ⟨?_, ?_, ?_, ?_, ?_⟩ <;> simp [World.cell?, h']
theorem Bb.free {w : World} {B : Nat} {o0 o1 o2 r : Value} {a : Nat} (h : Bb w B o0 o1 o2 r a) (i : Nat) : w.frozen? ⟨B, i, none⟩ = false := by
  have h' : w.heap[B]? = _ := h
  simp [World.frozen?, h']
theorem Bb.keeps {S : Nat → Prop} {w w' : World} {B : Nat} {o0 o1 o2 r : Value} {a : Nat} (h : Bb w B o0 o1 o2 r a) (k : Keeps S w w') (hn : ¬ S B) : Bb w' B o0 o1 o2 r a := (k.block B h.lt hn).trans h
theorem Bb.below {w w' : World} {B : Nat} {o0 o1 o2 r : Value} {a : Nat} (h : Bb w B o0 o1 o2 r a) (hb : Below w.heap.size w w') : Bb w' B o0 o1 o2 r a := (hb.block B h.lt).trans h
/-- a window of the list -/
def win (G o : Nat) : Value := .slice (some ⟨G, o, none⟩) 1 1
theorem keeps3 (w : World) (B i j k : Nat) (a b c : Value) : Keeps (fun q => q = B) w (((w.drew.setCell ⟨B, i, none⟩ a).setCell ⟨B, j, none⟩ b).setCell ⟨B, k, none⟩ c) :=
  ((((Keeps.refl _ w).drew.trans (Keeps.setCell _ B i a) (fun _ _ e => e)).trans (Keeps.setCell _ B j b) (fun _ _ e => e)).trans (Keeps.setCell _ B k c) (fun _ _ e => e))
set_option maxRecDepth 100000 in
set_option maxHeartbeats 4000000 in
theorem begin0 {w : World} {B G o m a : Nat} {o0 o1 o2 : Value} (h : Bb w B o0 o1 o2 (.slice (some ⟨G, o, none⟩) (m + 1) (m + 1)) a) (hm : m + 1 ≤ 1024) (ha : a + 4096 ≤ 18446744073709551615) : Calls Try.prog 42 #[.pointer (some ⟨B, 0, none⟩), .int .i64 0] w fun e w' => e = .returned (.int .u64 (a : Int)) ∧ ∃ r, Bb w' B (win G o) o1 o2 r (a + 4096) ∧ (m ≠ 0 → r = .slice (some ⟨G, o + 512, none⟩) m m) ∧ Keeps (fun k => k = B) w w' := by
  obtain ⟨c0, c1, c2, c3, c4⟩ := h.cells
  have f0 := h.free 0
  have f1 := h.free 1
  have f2 := h.free 2
  have f3 := h.free 3
  have f4 := h.free 4
  have hw : IntKind.u64.wrap ((a : Int) + 4096) = ((a + 4096 : Nat) : Int) := by rw [IntKind.wrap_u64]; omega
  have HB := Lib.hid h
  clear h
  by_cases h0 : m = 0
  · subst h0
    go_enter Try.func42, Try.ntmps42
    go_wp2_with fail
    go_region
    all_goals
      go_wp2_with fail
      go_ret
      refine ⟨rfl, .slice (some ⟨G, o, none⟩) 0 0, ?_, (fun e => absurd rfl e), keeps3 w B 0 3 4 _ _ _⟩
      have h' : w.heap[B]? = _ := HB.out
      unfold Bb win
      simp [World.setCell, World.drew, Array.getElem?_modify, h']
  · obtain ⟨q, rfl⟩ : ∃ q, m = q + 1 := ⟨m - 1, by omega⟩
    have j1 : (1 : Int) < ((q + 1 + 1 : Nat) : Int) := by omega
    clear h0
    go_enter Try.func42, Try.ntmps42
    go_wp2_with fail
    go_region
    all_goals
      go_wp2_with fail
      go_ret
      refine ⟨rfl, _, ?_, (fun _ => rfl), keeps3 w B 0 3 4 _ _ _⟩
      have h' : w.heap[B]? = _ := HB.out
      unfold Bb win
      simp [World.setCell, World.drew, Array.getElem?_modify, h']
set_option maxRecDepth 100000 in
set_option maxHeartbeats 4000000 in
theorem begin1 {w : World} {B G o m a : Nat} {o0 o1 o2 : Value} (h : Bb w B o0 o1 o2 (.slice (some ⟨G, o, none⟩) (m + 1) (m + 1)) a) (hm : m + 1 ≤ 1024) (ha : a + 4096 ≤ 18446744073709551615) : Calls Try.prog 42 #[.pointer (some ⟨B, 0, none⟩), .int .i64 1] w fun e w' => e = .returned (.int .u64 (a : Int)) ∧ ∃ r, Bb w' B o0 (win G o) o2 r (a + 4096) ∧ (m ≠ 0 → r = .slice (some ⟨G, o + 512, none⟩) m m) ∧ Keeps (fun k => k = B) w w' := by
  obtain ⟨c0, c1, c2, c3, c4⟩ := h.cells
  have f0 := h.free 0
  have f1 := h.free 1
  have f2 := h.free 2
  have f3 := h.free 3
  have f4 := h.free 4
  have hw : IntKind.u64.wrap ((a : Int) + 4096) = ((a + 4096 : Nat) : Int) := by rw [IntKind.wrap_u64]; omega
  have HB := Lib.hid h
  clear h
  by_cases h0 : m = 0
  · subst h0
    go_enter Try.func42, Try.ntmps42
    go_wp2_with fail
    go_region
    all_goals
      go_wp2_with fail
      go_ret
      refine ⟨rfl, .slice (some ⟨G, o, none⟩) 0 0, ?_, (fun e => absurd rfl e), keeps3 w B 1 3 4 _ _ _⟩
      have h' : w.heap[B]? = _ := HB.out
      unfold Bb win
      simp [World.setCell, World.drew, Array.getElem?_modify, h']
  · obtain ⟨q, rfl⟩ : ∃ q, m = q + 1 := ⟨m - 1, by omega⟩
    have j1 : (1 : Int) < ((q + 1 + 1 : Nat) : Int) := by omega
    clear h0
    go_enter Try.func42, Try.ntmps42
    go_wp2_with fail
    go_region
    all_goals
      go_wp2_with fail
      go_ret
      refine ⟨rfl, _, ?_, (fun _ => rfl), keeps3 w B 1 3 4 _ _ _⟩
      have h' : w.heap[B]? = _ := HB.out
      unfold Bb win
      simp [World.setCell, World.drew, Array.getElem?_modify, h']
set_option maxRecDepth 100000 in
set_option maxHeartbeats 4000000 in
theorem begin2 {w : World} {B G o m a : Nat} {o0 o1 o2 : Value} (h : Bb w B o0 o1 o2 (.slice (some ⟨G, o, none⟩) (m + 1) (m + 1)) a) (hm : m + 1 ≤ 1024) (ha : a + 4096 ≤ 18446744073709551615) : Calls Try.prog 42 #[.pointer (some ⟨B, 0, none⟩), .int .i64 2] w fun e w' => e = .returned (.int .u64 (a : Int)) ∧ ∃ r, Bb w' B o0 o1 (win G o) r (a + 4096) ∧ (m ≠ 0 → r = .slice (some ⟨G, o + 512, none⟩) m m) ∧ Keeps (fun k => k = B) w w' := by
  obtain ⟨c0, c1, c2, c3, c4⟩ := h.cells
  have f0 := h.free 0
  have f1 := h.free 1
  have f2 := h.free 2
  have f3 := h.free 3
  have f4 := h.free 4
  have hw : IntKind.u64.wrap ((a : Int) + 4096) = ((a + 4096 : Nat) : Int) := by rw [IntKind.wrap_u64]; omega
  have HB := Lib.hid h
  clear h
  by_cases h0 : m = 0
  · subst h0
    go_enter Try.func42, Try.ntmps42
    go_wp2_with fail
    go_region
    all_goals
      go_wp2_with fail
      go_ret
      refine ⟨rfl, .slice (some ⟨G, o, none⟩) 0 0, ?_, (fun e => absurd rfl e), keeps3 w B 2 3 4 _ _ _⟩
      have h' : w.heap[B]? = _ := HB.out
      unfold Bb win
      simp [World.setCell, World.drew, Array.getElem?_modify, h']
  · obtain ⟨q, rfl⟩ : ∃ q, m = q + 1 := ⟨m - 1, by omega⟩
    have j1 : (1 : Int) < ((q + 1 + 1 : Nat) : Int) := by omega
    clear h0
    go_enter Try.func42, Try.ntmps42
    go_wp2_with fail
    go_region
    all_goals
      go_wp2_with fail
      go_ret
      refine ⟨rfl, _, ?_, (fun _ => rfl), keeps3 w B 2 3 4 _ _ _⟩
      have h' : w.heap[B]? = _ := HB.out
      unfold Bb win
      simp [World.setCell, World.drew, Array.getElem?_modify, h']
end Go.Proofs.Ytjfpdphedpnelaa
