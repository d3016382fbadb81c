/- Lanes: runs that come in; what a run wants. Own work. -/
import Derived.Test.YtkhlkbgolonkkaaLnTurn
namespace Go.Proofs.Ytkhlkbgolonkkaa
open Go.RowKit
/-- a run -/
structure R4 where
  k : Int
  s : ByteArray
  b : Nat
  p : Nat
def R4.ok (r : R4) : Prop := r.b < 18446744073709551616 ∧ r.p < 18446744073709551616
def R4.v (r : R4) : Value := .agg #[.int .i64 r.k, .string r.s, .int .u64 (r.b : Int), .int .u64 (r.p : Int)]
/-- runs that are read, wherever they lie -/
def Rn (w : World) (v : Value) (xs : List R4) : Prop :=
  ∃ ao cap, v = .slice ao xs.length cap ∧ xs.length ≤ cap ∧ cap ≤ maxLen ∧ (∀ x ∈ xs, R4.ok x) ∧ ∀ i (h : i < xs.length), ∃ b o, ao = some ⟨b, o, none⟩ ∧ w.cell? ⟨b, o + i * 4, none⟩ = some (.int .i64 xs[i].k) ∧ w.cell? ⟨b, o + i * 4 + 1, none⟩ = some (.string xs[i].s) ∧ w.cell? ⟨b, o + i * 4 + 2, none⟩ = some (.int .u64 (xs[i].b : Int)) ∧ w.cell? ⟨b, o + i * 4 + 3, none⟩ = some (.int .u64 (xs[i].p : Int))
theorem Rn.below {w w' : World} {v : Value} {xs : List R4} (h : Rn w v xs) (hb : Below w.heap.size w w') : Rn w' v xs := by
  obtain ⟨ao, cap, rfl, h1, h2, h4, h3⟩ := h
  refine ⟨ao, cap, rfl, h1, h2, h4, fun i hi => ?_⟩
  obtain ⟨b, o, rfl, c0, c1, c2, c3⟩ := h3 i hi
  have hl := World.block_lt_of_cell? w _ c0
  exact ⟨b, o, rfl, (hb.cell (p := ⟨b, o + i * 4, none⟩) hl).trans c0, (hb.cell (p := ⟨b, o + i * 4 + 1, none⟩) hl).trans c1, (hb.cell (p := ⟨b, o + i * 4 + 2, none⟩) hl).trans c2, (hb.cell (p := ⟨b, o + i * 4 + 3, none⟩) hl).trans c3⟩
/-- how many ticks a run wants, or why it may not be -/
def wantsF (m : Nat) (nd : Bool) (r : R4) : Nat × Int :=
  if r.b = 0 ∨ m < r.b then (0, 90) else if nd = false then (r.b, 0) else if r.s.toList.isEmpty = true then (0, 80) else if r.p = 0 ∨ m % r.p ≠ 0 ∨ r.p < r.b then (0, 91) else (r.b * (m / r.p), 0)
set_option maxRecDepth 100000 in
set_option maxHeartbeats 2000000 in
theorem wants_any {m : Nat} {nd : Bool} {r : R4} (hr : r.ok) (hm : m ≤ 65536) (w : World) : Calls Try.prog 33 #[.int .u64 (m : Int), .bool nd, r.v] w fun e w' => e = .returned (.tuple #[.int .u64 ((wantsF m nd r).1 : Int), .int .i64 (wantsF m nd r).2]) ∧ Below w.heap.size w w' := by
  obtain ⟨q, s, b, p⟩ := r
  obtain ⟨hb, hp⟩ := hr
  simp only at hb hp
  unfold R4.v wantsF
  simp only
  by_cases h0 : b = 0
  · subst h0
    rw [if_pos (.inl rfl)]
    go_enter Try.func33, Try.ntmps33
    go_wp2_with fail
    go_ret2
    exact ⟨rfl, (Below.refl _ _).alloc (Nat.le_refl _) _⟩
  by_cases h1 : m < b
  · rw [if_pos (.inr h1)]
    have h2 : (m : Int) < (b : Int) := by omega
    have h4 : (b : Int) ≠ 0 := by omega
    go_enter Try.func33, Try.ntmps33
    go_wp2_with fail
    go_ret2
    exact ⟨rfl, (Below.refl _ _).alloc (Nat.le_refl _) _⟩
  rw [if_neg (by omega)]
  have h3 : ¬ (m : Int) < (b : Int) := by omega
  have h4 : (b : Int) ≠ 0 := by omega
  cases nd with
  | false =>
    rw [if_pos rfl]
    clear hb hp h0 h1
    go_enter Try.func33, Try.ntmps33
    go_wp2_with fail
    go_ret2
    exact ⟨rfl, (Below.refl _ _).alloc (Nat.le_refl _) _⟩
  | true =>
    rw [if_neg (by decide)]
    by_cases h5 : s.toList.isEmpty = true
    · rw [if_pos h5]
      clear hb hp h0 h1
      go_enter Try.func33, Try.ntmps33
      go_wp2_with fail
      go_ret2
      exact ⟨rfl, (Below.refl _ _).alloc (Nat.le_refl _) _⟩
    rw [if_neg h5]
    have h5 : s.toList.isEmpty = false := by simpa using h5
    by_cases h6 : p = 0
    · subst h6
      rw [if_pos (.inl rfl)]
      clear hb hp h0 h1
      go_enter Try.func33, Try.ntmps33
      go_wp2_with fail
      go_ret2
      exact ⟨rfl, (Below.refl _ _).alloc (Nat.le_refl _) _⟩
    have j6 : (p : Int) ≠ 0 := by omega
    obtain ⟨d, hd⟩ : ∃ d, m % p = d := ⟨_, rfl⟩
    have jd : (m : Int).tmod (p : Int) = (d : Int) := by rw [← hd]; rfl
    rw [hd]
    by_cases h7 : d = 0
    · by_cases h8 : p < b
      · rw [if_pos (.inr (.inr h8))]
        have j8 : (p : Int) < (b : Int) := by omega
        subst h7
        clear hb hp h0 h1 h6 hd
        go_enter Try.func33, Try.ntmps33
        go_wp2_with fail
        go_ret2
        exact ⟨rfl, (Below.refl _ _).alloc (Nat.le_refl _) _⟩
      · rw [if_neg (by omega)]
        have j8 : ¬ (p : Int) < (b : Int) := by omega
        obtain ⟨u, hu⟩ : ∃ u, m / p = u := ⟨_, rfl⟩
        have ju : (m : Int).tdiv (p : Int) = (u : Int) := by rw [← hu]; rfl
        have hle : b * u ≤ m := by
          have h9 : u * p ≤ m := by rw [← hu]; exact Nat.div_mul_le_self m p
          have h10 : b * u ≤ p * u := Nat.mul_le_mul_right u (by omega)
          rw [Nat.mul_comm p u] at h10
          omega
        have hx : (b : Int) * (u : Int) = ((b * u : Nat) : Int) := by simp
        have hw : IntKind.u64.wrap ((b : Int) * (u : Int)) = ((b * u : Nat) : Int) := by rw [hx, IntKind.wrap_u64]; omega
        have hwu : IntKind.u64.wrap (u : Int) = (u : Int) := by
          have : u ≤ m := by rw [← hu]; exact Nat.div_le_self m p
          rw [IntKind.wrap_u64]; omega
        rw [hu]
        subst h7
        clear hb hp h0 h1 h6 hd hu hle hx
        have z2 : (w.alloc (.cells #[.int .i64 q, .string s, .int .u64 (b : Int), .int .u64 (p : Int)] 30)).cell? ⟨w.heap.size, 2, none⟩ = some (.int .u64 (b : Int)) := by rw [cell_of_row _ _ _ _ _ _ (Array.getElem?_push_size (xs := w.heap))]; rfl
        have z3 : (w.alloc (.cells #[.int .i64 q, .string s, .int .u64 (b : Int), .int .u64 (p : Int)] 30)).cell? ⟨w.heap.size, 3, none⟩ = some (.int .u64 (p : Int)) := by rw [cell_of_row _ _ _ _ _ _ (Array.getElem?_push_size (xs := w.heap))]; rfl
        go_enter Try.func33, Try.ntmps33
        go_wp2_with fail
        go_region_held3 (fun w' => w'.cell? ⟨w.heap.size, 2, none⟩ = some (.int .u64 (b : Int)) ∧ w'.cell? ⟨w.heap.size, 3, none⟩ = some (.int .u64 (p : Int))) (go_keep) (fail)
        all_goals
          go_wp2_with fail
          go_ret2
          exact ⟨congrArg (fun z => Ending.returned (Value.tuple #[.int .u64 z, .int .i64 0])) (by first | exact hw | (rw [hwu]; exact hw) | rfl), ((Below.refl _ _).alloc (Nat.le_refl _) _).drew⟩
    · rw [if_pos (.inr (.inl h7))]
      have j7 : (d : Int) ≠ 0 := by omega
      clear hb hp h0 h1 h6 hd h7
      go_enter Try.func33, Try.ntmps33
      go_wp2_with fail
      go_ret2
      exact ⟨rfl, (Below.refl _ _).alloc (Nat.le_refl _) _⟩
end Go.Proofs.Ytkhlkbgolonkkaa
