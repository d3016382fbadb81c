/- A list of numbers that was handed in; its pairs. Own work. -/
import Derived.Test.YtogcpogoamoljaaSpMath2
import Derived.Test.YtogcpogoamoljaaProg
import Derived.WalkKit
import Derived.WalkSpells
namespace Go.Proofs.Ytogcpogoamoljaa.Sp
open Go.RowKit

/-- A slice of numbers of 64 bits. -/
def UL (w : World) (v : Value) (zs : List Int) : Prop :=
  (∀ z ∈ zs, 0 ≤ z ∧ z ≤ 18446744073709551615) ∧ ∃ ao cap, v = .slice ao zs.length cap ∧ zs.length ≤ cap ∧ cap ≤ maxLen ∧ (ao = none → zs = [] ∧ cap = 0) ∧
    ∀ j (h : j < zs.length), ∃ g off, ao = some ⟨g, off, none⟩ ∧ w.cell? ⟨g, off + j, none⟩ = some (.int .u64 zs[j])
theorem UL.below {B : Nat} {w w' : World} {v : Value} {zs : List Int} (h : UL w v zs) (hb : Below B w w') (hB : w.heap.size ≤ B) : UL w' v zs := by
  obtain ⟨hr, ao, cap, rfl, h1, h2, h3, h5⟩ := h
  refine ⟨hr, ao, cap, rfl, h1, h2, h3, fun j hj => ?_⟩
  obtain ⟨g, off, e, c0⟩ := h5 j hj
  refine ⟨g, off, e, ?_⟩
  rw [hb.cell (p := ⟨g, off + j, none⟩) (Nat.lt_of_lt_of_le (World.block_lt_of_cell? w _ c0) hB)]; exact c0
theorem wrap_i64 {n : Int} (h : n ≤ 9223372036854775807) (h0 : 0 ≤ n) : IntKind.i64.wrap n = n := by
  have e : n % 18446744073709551616 = n := Int.emod_eq_of_lt h0 (by omega)
  show (if (true && decide (n % 18446744073709551616 ≥ 9223372036854775808)) = true then n % 18446744073709551616 - 18446744073709551616 else n % 18446744073709551616) = n
  rw [e, if_neg (by simp; omega)]
/-- What the walk is told of a slice of numbers that came in. -/
theorem UL.of {w : World} {a : Option Addr} {len cap : Nat} {zs : List Int}
    (h : (a = none ∧ len = 0 ∧ cap = 0 ∧ zs = []) ∨ ∃ x, a = some x ∧ len ≤ cap ∧ cap ≤ maxLen ∧ zs.length = cap ∧ (∀ i, i < zs.length → w.cell? (x.add i) = some (.int .u64 (zs.getD i 0))) ∧ ∀ n ∈ zs, (Lit.int .u64 n).wf = true) :
    UL w (.slice a len cap) (zs.take len) := by
  rcases h with ⟨rfl, rfl, rfl, rfl⟩ | ⟨x, rfl, h1, h2, h3, h4, h5⟩
  · exact ⟨fun z hz => (by cases hz), none, 0, rfl, Nat.le_refl _, Nat.zero_le _, fun _ => ⟨rfl, rfl⟩, fun j hj => by simp at hj⟩
  · have hl : (zs.take len).length = len := by rw [List.length_take]; omega
    refine ⟨fun z hz => ?_, some x, cap, by rw [hl], by omega, h2, fun e => (by cases e), fun j hj => ?_⟩
    · have := h5 z (List.mem_of_mem_take hz)
      simp [Lit.wf, IntKind.max, IntKind.min, IntKind.signed, IntKind.bits] at this
      omega
    · have hc := h4 j (by omega)
      obtain ⟨g, off, spot⟩ := x
      have hs : spot = none := by
        cases spot with
        | none => rfl
        | some k =>
          exfalso
          have hc0 := h4 0 (by omega)
          unfold World.cell? at hc0
          split at hc0
          · simp [Addr.add] at hc0
          · cases hc0
      subst hs
      refine ⟨g, off, rfl, ?_⟩
      rw [Addr.add_lit] at hc
      rw [hc, List.getElem_take, List.getD_eq_getElem?_getD, List.getElem?_eq_getElem (by omega)]
      rfl
/-- Two and two, as far as a type holds them. -/
def pairsN (m : Int) (zs : List Int) (k : Nat) : List Sp := (List.range k).map fun i => (zs[2 * i]?.getD 0 % (m + 1), zs[2 * i + 1]?.getD 0 % (m + 1))
def pairs (m : Int) (zs : List Int) : List Sp := pairsN m zs (zs.length / 2)
theorem pairsN_length (m : Int) (zs : List Int) (k : Nat) : (pairsN m zs k).length = k := by simp [pairsN]
theorem pairsN_succ (m : Int) (zs : List Int) (k : Nat) : pairsN m zs (k + 1) = pairsN m zs k ++ [(zs[2 * k]?.getD 0 % (m + 1), zs[2 * k + 1]?.getD 0 % (m + 1))] := by
  simp [pairsN, List.range_succ]
theorem pairs_fits {m : Int} (hm : 0 ≤ m) (zs : List Int) : Fits m (pairs m zs) := by
  intro x hx
  obtain ⟨i, _, rfl⟩ := List.mem_map.1 hx
  have h1 := Int.emod_nonneg (zs[2 * i]?.getD 0) (show m + 1 ≠ 0 by omega)
  have h2 := Int.emod_lt_of_pos (zs[2 * i]?.getD 0) (show 0 < m + 1 by omega)
  have h3 := Int.emod_nonneg (zs[2 * i + 1]?.getD 0) (show m + 1 ≠ 0 by omega)
  have h4 := Int.emod_lt_of_pos (zs[2 * i + 1]?.getD 0) (show 0 < m + 1 by omega)
  exact ⟨h1, by show _ ≤ m; omega, h3, by show _ ≤ m; omega⟩
end Go.Proofs.Ytogcpogoamoljaa.Sp
