/- A table and bytes that come in. Own work. -/
import Derived.Test.YtmkmdcoofngkiaaPgTab
import Derived.Below
import Derived.WalkKit
import Derived.ProofKit
import Derived.OpenShut
import Derived.Deep.Slices
namespace Go.Proofs.Ytmkmdcoofngkiaa
open Go.ChangeShapes Go.WideShapes Go.ChangeAt Go.RowKit
/-- what is told of a slice of integers that came in -/
def IsRow (k : IntKind) (w : World) (a : Option Addr) (len cap : Nat) (zs : List Int) : Prop :=
  (a = none ∧ len = 0 ∧ cap = 0 ∧ zs = []) ∨
  ∃ x, a = some x ∧ len ≤ cap ∧ cap ≤ maxLen ∧ zs.length = cap ∧ (∀ i, i < zs.length → w.cell? (x.add i) = some (.int k (zs.getD i 0))) ∧ ∀ n ∈ zs, (Lit.int k n).wf = true
theorem sl_of_row {w : World} {a : Option Addr} {len cap : Nat} {zs : List Int} (h : IsRow .u8 w a len cap zs) : ∃ p : List Nat, p.length = len ∧ Sl w (.slice a len cap) p := by
  rcases h with ⟨rfl, rfl, rfl, _⟩ | ⟨x, rfl, hl, hm, hz, hc, hw⟩
  · exact ⟨[], rfl, none, 0, rfl, by simp, by simp [maxLen], by simp, fun _ => rfl, fun i hi => by simp at hi⟩
  · refine ⟨(zs.take len).map Int.toNat, by simp; omega, some x, cap, ?_, by simp; omega, hm, ?_, by simp, ?_⟩
    · congr 1
      simp; omega
    · intro z hz'
      obtain ⟨y, hy, rfl⟩ := List.mem_map.1 hz'
      have := bounds_u8 (hw y (List.mem_of_mem_take hy))
      omega
    · intro i hi
      have hi' : i < len := by simp at hi; omega
      obtain ⟨b, o, rfl, hc'⟩ := ints_at hc (show 0 < zs.length by omega)
      refine ⟨b, o, rfl, ?_⟩
      rw [hc' i (by omega)]
      have hb := bounds_u8 (hw zs[i] (List.getElem_mem (by omega)))
      have e1 : zs.getD i 0 = zs[i] := by rw [List.getD_eq_getElem?_getD, List.getElem?_eq_getElem (by omega)]; rfl
      have e2 : ((zs.take len).map Int.toNat).getD i 0 = zs[i].toNat := by
        rw [List.getD_eq_getElem?_getD, List.getElem?_map, List.getElem?_take, if_pos hi', List.getElem?_eq_getElem (by omega)]
        rfl
      rw [e1, e2]
      congr 2
      omega
theorem okWide_arr {P : Program} {w : World} {base : Nat} {t : TypeId} {v : Value} {n : Nat} {e : TypeId} (ht : P.underlying t = some (.array n e)) (h : Value.okWide P w .any base t v) : ∃ cs, v = .agg cs ∧ cs.size = P.cellsOf t := by
  simp only [Value.okWide, ht] at h
  obtain ⟨cs, h1, h2, _⟩ := h
  exact ⟨cs, h1, h2⟩
section
variable {H : Type} {enc : TypeId × Value → H} {W : World} {base : Nat} {held : Bool}
theorem table_opened {fuel : Nat} {cs : List Value} {x : DataW H × List MemPlace} (h : DataW.trod enc Try.prog W base (fun _ => true) held fuel 28 cs = some x) :
    ∃ f : Nat → Nat, cs.toArray = tabV f ∧ ∀ i, i < 512 → f i ≤ 18446744073709551615 := by
  obtain ⟨xs, m, _, _, hl, hlen, hf⟩ := DataW.trod_array Try.underlying28 h
  have c1 : Try.prog.cellsOf 26 = 1 := by kernel_rfl
  have cT : Try.prog.cellsOf 28 = 512 := by kernel_rfl
  rw [cT] at hl
  obtain ⟨F, hF⟩ := Go.Deep.choose_lt (α := Nat) (n := 512) (p := fun i y => cs[i]? = some (.int .u64 (y : Int)) ∧ y ≤ 18446744073709551615) (fun i hi => by
    have hx := hf i hi
    rw [List.getElem?_eq_getElem (by omega), c1] at hx
    obtain ⟨n, hn, _, wn⟩ := DataW.trod_int Try.underlying26 hx
    have hb := bounds_u64 wn
    refine ⟨n.toNat, ?_, by omega⟩
    have h5 : ((cs.drop (i * 1)).take 1)[0]? = some (.int .u64 n) := by rw [hn]; rfl
    rw [Nat.mul_one, List.getElem?_take, if_pos (by omega), List.getElem?_drop, Nat.add_zero] at h5
    rw [h5, show ((n.toNat : Nat) : Int) = n by omega])
  refine ⟨F, ?_, fun i hi => (hF i hi).2⟩
  apply Array.ext_getElem?
  intro i
  by_cases hi : i < 512
  · rw [tabV_get F hi, List.getElem?_toArray]
    exact (hF i hi).1
  · rw [Array.getElem?_eq_none (show cs.toArray.size ≤ i by rw [List.size_toArray]; omega), Array.getElem?_eq_none (show (tabV F).size ≤ i by rw [tabV_size]; omega)]
end
end Go.Proofs.Ytmkmdcoofngkiaa
