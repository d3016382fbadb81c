/- Lanes: the law's great, Within; rows of strings and of numbers. Own work. -/
import Derived.Test.YtkhlkbgolonkkaaLnRun
namespace Go.Proofs.Ytkhlkbgolonkkaa
open Go.RowKit
set_option linter.unusedVariables false
set_option maxRecDepth 100000 in
set_option maxHeartbeats 2000000 in
theorem great_any {w : World} {v : Value} {xs : List R4} {m : Nat} {q cp : Int} {nd : Bool} (h : Rn w v xs) : Calls Try.prog 6 #[.int .u64 (m : Int), .agg #[.int .i64 q, .int .u64 cp, .bool nd, v]] w fun e w' => (e = .returned (.bool true) ∨ e = .returned (.bool false)) ∧ Below w.heap.size w w' := by
  obtain ⟨ao, cap, rfl, h1, h2, h3, h4⟩ := h
  clear h3 h4
  unfold maxLen at h2
  generalize xs.length = n at *
  by_cases g1 : 5000 < n
  · have j1 : (5000 : Int) < (n : Int) := by omega
    go_enter Try.func6, Try.ntmps6
    go_wp2_with fail
    go_ret
    first
    | exact ⟨.inl rfl, (Below.refl _ _).alloc (Nat.le_refl _) _⟩
    | exact ⟨.inr rfl, (Below.refl _ _).alloc (Nat.le_refl _) _⟩
  · have j1 : ¬ (5000 : Int) < (n : Int) := by omega
    cases nd with
    | false =>
      go_enter Try.func6, Try.ntmps6
      go_wp2_with fail
      go_ret
      first
      | exact ⟨.inl rfl, (Below.refl _ _).alloc (Nat.le_refl _) _⟩
      | exact ⟨.inr rfl, (Below.refl _ _).alloc (Nat.le_refl _) _⟩
    | true =>
      by_cases g2 : m ≤ 65536
      · have j2 : (m : Int) ≤ 65536 := by omega
        have hwm : IntKind.i64.wrap (m : Int) = (m : Int) := by rw [IntKind.wrap_i64]; omega
        have hml : n * m ≤ 5000 * 65536 := Nat.mul_le_mul (by omega) g2
        obtain ⟨P, hP⟩ : ∃ P, n * m = P := ⟨_, rfl⟩
        rw [hP] at hml
        have hw3 : IntKind.i64.wrap ((n : Int) * (m : Int)) = (P : Int) := by
          rw [show (n : Int) * (m : Int) = ((n * m : Nat) : Int) by simp, hP, IntKind.wrap_i64]; omega
        clear hP hml
        by_cases g3 : 60000000 < P
        · have j3 : (60000000 : Int) < (P : Int) := by omega
          go_enter Try.func6, Try.ntmps6
          go_wp2_with fail
          go_ret
          first
          | exact ⟨.inl rfl, (Below.refl _ _).alloc (Nat.le_refl _) _⟩
          | exact ⟨.inr rfl, (Below.refl _ _).alloc (Nat.le_refl _) _⟩
        · have j3 : ¬ (60000000 : Int) < (P : Int) := by omega
          go_enter Try.func6, Try.ntmps6
          go_wp2_with fail
          go_ret
          first
          | exact ⟨.inl rfl, (Below.refl _ _).alloc (Nat.le_refl _) _⟩
          | exact ⟨.inr rfl, (Below.refl _ _).alloc (Nat.le_refl _) _⟩
      · have j2 : ¬ (m : Int) ≤ 65536 := by omega
        go_enter Try.func6, Try.ntmps6
        go_wp2_with fail
        go_ret
        first
        | exact ⟨.inl rfl, (Below.refl _ _).alloc (Nat.le_refl _) _⟩
        | exact ⟨.inr rfl, (Below.refl _ _).alloc (Nat.le_refl _) _⟩
/-- a row of values of one cell that is owned -/
def OwnV (w : World) (base : Nat) (e : TypeId) (v : Value) (vs : List Value) : Prop := w.ownsRow base e 1 v vs.length vs
theorem OwnV.lt {w : World} {base : Nat} {e : TypeId} {v : Value} {vs : List Value} (h : OwnV w base e v vs) : ∀ k, v.ownBlock = some k → base ≤ k ∧ k < w.heap.size := World.ownsRow.lt h
theorem OwnV.keeps {S : Nat → Prop} {w w' : World} {base : Nat} {e : TypeId} {v : Value} {vs : List Value} (h : OwnV w base e v vs) (hk : Keeps S w w') (hn : ∀ k, v.ownBlock = some k → ¬ S k) : OwnV w' base e v vs := by
  refine ⟨h.1, ?_⟩
  rcases h.2 with hv | ⟨g, cap, cur, rfl, hb, hgg, rest⟩
  · exact .inl hv
  · refine .inr ⟨g, cap, cur, rfl, hb, ?_, rest⟩
    rw [hk.block g (Array.getElem?_eq_some_iff.1 hgg).1 (hn g rfl)]
    exact hgg
theorem OwnV.below {w w' : World} {base : Nat} {e : TypeId} {v : Value} {vs : List Value} (h : OwnV w base e v vs) (hb : Below w.heap.size w w') : OwnV w' base e v vs := h.keeps (Keeps.of_below (S := fun _ => False) hb) (fun _ _ e => e)
theorem OwnV.pos {w : World} {base : Nat} {e : TypeId} {v : Value} {vs : List Value} (h : OwnV w base e v vs) (hp : 0 < vs.length) : ∃ g cap, v = .slice (some ⟨g, 0, none⟩) vs.length cap ∧ base ≤ g ∧ g < w.heap.size ∧ vs.length ≤ cap ∧ cap ≤ maxLen := by
  rcases h.2 with ⟨rfl, h0⟩ | ⟨g, cap, cur, rfl, hb, hg, h1, h2, _⟩
  · omega
  · exact ⟨g, cap, rfl, hb, (Array.getElem?_eq_some_iff.1 hg).1, h1, h2⟩
theorem OwnV.cell {w : World} {base : Nat} {e : TypeId} {g cap : Nat} {vs : List Value} (h : OwnV w base e (.slice (some ⟨g, 0, none⟩) vs.length cap) vs) (j : Nat) (hj : j < vs.length) : w.cell? ⟨g, j, none⟩ = some vs[j] := by
  rw [World.ownsRow.cellAt h j (by omega), List.getElem?_eq_getElem hj]
theorem OwnV.thawed {w : World} {base : Nat} {e : TypeId} {g cap : Nat} {vs : List Value} (h : OwnV w base e (.slice (some ⟨g, 0, none⟩) vs.length cap) vs) (i : Nat) : w.frozen? ⟨g, i, none⟩ = false := World.ownsRow.frozenAt h i
theorem OwnV.set {w : World} {base : Nat} {e : TypeId} {g cap : Nat} {vs : List Value} (h : OwnV w base e (.slice (some ⟨g, 0, none⟩) vs.length cap) vs) (j : Nat) (x : Value) : OwnV (w.setCell ⟨g, j, none⟩ x) base e (.slice (some ⟨g, 0, none⟩) vs.length cap) (vs.set j x) := by
  have h9 := World.ownsRow.stored h j x
  unfold OwnV
  rw [List.length_set]
  exact h9.1
theorem info_str : (Try.prog.info? 9).map (fun i => (i.zero, i.size, i.bytes)) = some (some (.string ⟨#[]⟩), 1, 16) := by kernel_rfl
end Go.Proofs.Ytkhlkbgolonkkaa
