import Derived.Test.YtlhecgokedckdaaDoorScLaid
import Derived.SizedLaws
import Derived.Deep.Slices
/- bytes that come in, at scan's seats. -/
namespace Go.Proofs.YtlhecgokedckdaaDoor
open Go.ChangeShapes Go.WideShapes Go.ChangeAt Go.RowKit
/-- what is told of a slice of integers that came in -/
def IsRow (k : IntKind) (w : World) (a : Option Addr) (len cap : Nat) (zs : List Int) : Prop :=
  (a = none ∧ len = 0 ∧ cap = 0 ∧ zs = []) ∨
  ∃ x, a = some x ∧ len ≤ cap ∧ cap ≤ maxLen ∧ zs.length = cap ∧ (∀ i, i < zs.length → w.cell? (x.add i) = some (.int k (zs.getD i 0))) ∧ ∀ n ∈ zs, (Lit.int k n).wf = true
theorem sl_of_row {w : World} {a : Option Addr} {len cap : Nat} {zs : List Int} (h : IsRow .u8 w a len cap zs) : ∃ p : List Nat, p.length = len ∧ Sl w (.slice a len cap) p := by
  rcases h with ⟨rfl, rfl, rfl, _⟩ | ⟨x, rfl, hl, hm, hz, hc, hw⟩
  · exact ⟨[], rfl, none, 0, rfl, by simp, by simp [maxLen], by simp, fun _ => rfl, fun i hi => by simp at hi⟩
  · refine ⟨(zs.take len).map Int.toNat, by simp; omega, some x, cap, ?_, by simp; omega, hm, ?_, by simp, ?_⟩
    · congr 1
      simp; omega
    · intro z hz'
      obtain ⟨y, hy, rfl⟩ := List.mem_map.1 hz'
      have := bounds_u8 (hw y (List.mem_of_mem_take hy))
      omega
    · intro i hi
      have hi' : i < len := by simp at hi; omega
      obtain ⟨b, o, rfl, hc'⟩ := ints_at hc (show 0 < zs.length by omega)
      refine ⟨b, o, rfl, ?_⟩
      rw [hc' i (by omega)]
      have hb := bounds_u8 (hw zs[i] (List.getElem_mem (by omega)))
      have e1 : zs.getD i 0 = zs[i] := by rw [List.getD_eq_getElem?_getD, List.getElem?_eq_getElem (by omega)]; rfl
      have e2 : ((zs.take len).map Int.toNat).getD i 0 = zs[i].toNat := by
        rw [List.getD_eq_getElem?_getD, List.getElem?_map, List.getElem?_take, if_pos hi', List.getElem?_eq_getElem (by omega)]
        rfl
      rw [e1, e2]
      congr 2
      omega
end Go.Proofs.YtlhecgokedckdaaDoor
/- Texts that come in ([][]byte), as bytes in memory. Own work. -/
namespace Go.Proofs.YtlhecgokedckdaaDoor
open Go.ChangeShapes Go.WideShapes Go.ChangeAt Go.RowKit
/-- a row of texts -/
def Txs (w : World) (v : Value) (xs : List (Value × List Nat)) : Prop :=
  ∃ ao cap, v = .slice ao xs.length cap ∧ xs.length ≤ cap ∧ cap ≤ maxLen ∧ ∀ i (h : i < xs.length), ∃ b o, ao = some ⟨b, o, none⟩ ∧ w.cell? ⟨b, o + i, none⟩ = some xs[i].1 ∧ Sl w xs[i].1 xs[i].2
theorem nil_sl0 (w : World) : Sl w (.slice none 0 0) [] := ⟨none, 0, rfl, Nat.le_refl _, by simp [maxLen], fun _ h => by simp at h, fun _ => rfl, fun i hi => by simp at hi⟩
section
variable {H : Type} {enc : TypeId × Value → H} {W : World} {base : Nat} {held : Bool}
theorem sl_opened {fuel : Nat} {cs : List Value} {x : DataW H × List MemPlace} (h : DataW.trod enc Tryd.prog W base (fun _ => true) held fuel 28 cs = some x) : ∃ v p, cs = [v] ∧ Sl W v p := by
  rcases open_ints Tryd.underlying28 Tryd.underlying5 (by kernel_rfl) h with ⟨rfl, _⟩ | ⟨a, l, c, zs, rfl, _, hl, hm, hz, _, hcell, hwz⟩
  · exact ⟨_, [], rfl, nil_sl0 W⟩
  · obtain ⟨p, _, hp⟩ := sl_of_row (w := W) (a := some a) (len := l) (cap := c) (zs := zs) (.inr ⟨_, rfl, hl, hm, by simpa using hz, hcell, hwz⟩)
    exact ⟨_, p, rfl, hp⟩
theorem txs_opened {fuel : Nat} {cs : List Value} {x : DataW H × List MemPlace} (h : DataW.trod enc Tryd.prog W base (fun _ => true) held fuel 22 cs = some x) : ∃ v xs, cs = [v] ∧ Txs W v xs := by
  rcases Go.Deep.open_slice1 Tryd.underlying22 (by kernel_rfl) h with ⟨rfl, _⟩ | ⟨a, len, cap, m, n, V, D, Pl, rfl, _, hl, hm, hmm, _, hx⟩
  · exact ⟨_, [], rfl, none, 0, rfl, Nat.le_refl _, Nat.zero_le _, fun i hi => by simp at hi⟩
  · have hmc : m = cap := by simpa using hmm
    obtain ⟨F, hF⟩ := Go.Deep.choose_lt (α := List Nat) (n := len) (p := fun i p => Sl W (V i) p ∧ W.cell? (a.add i) = some (V i)) (fun i hi => by
      obtain ⟨h1, h2⟩ := hx i (by omega)
      obtain ⟨v, p, e, hp⟩ := sl_opened h2
      cases e
      exact ⟨p, hp, h1⟩)
    refine ⟨_, (List.range len).map (fun i => (V i, F i)), rfl, some a, cap, by simp, by simpa using hl, hm, fun i hi => ?_⟩
    have hi' : i < len := by simpa using hi
    obtain ⟨hsl, hc⟩ := hF i hi'
    have hget : ((List.range len).map (fun i => (V i, F i)))[i] = (V i, F i) := by simp
    rw [hget]
    obtain ⟨b, o, sp⟩ := a
    cases sp with
    | some q => exact absurd (World.cell?_spot (hF 0 (by omega)).2) (by simp [Addr.add])
    | none =>
      rw [Go.WideShapes.add_plain] at hc
      exact ⟨b, o, rfl, hc, hsl⟩
end
end Go.Proofs.YtlhecgokedckdaaDoor
