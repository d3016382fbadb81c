/- Writer.Bytes, Writer.Seal. -/
import Derived.Test.YtmkmdcoofngkiaaWPad
namespace Go.Proofs.Ytmkmdcoofngkiaa
open Go.RowKit
theorem Sl.cutEnd {w : World} {ao : Option Addr} {fr : Nat} {zs : List Nat} (h : Sl w (.slice ao zs.length fr) zs) : Sl w (.slice ao 0 0) (zs.drop fr) := by
  obtain ⟨a, c, e, h1, h2, h3, h4, h5⟩ := h
  cases e
  have e : zs.drop fr = [] := List.drop_eq_nil_of_le (by omega)
  rw [e]
  exact ⟨ao, 0, rfl, by simp, by simp [maxLen], by simp, fun _ => rfl, fun i hi => by simp at hi⟩
theorem Sl.cut {w : World} {ao : Option Addr} {cap fr : Nat} {zs : List Nat} (h : Sl w (.slice ao zs.length cap) zs) (hf : fr ≤ zs.length) : Sl w (.slice (Option.map (fun x => x.add fr) ao) (zs.length - fr) (cap - fr)) (zs.drop fr) := by
  obtain ⟨a, c, e, h1, h2, h3, h4, h5⟩ := h
  cases e
  refine ⟨_, _, by rw [List.length_drop], by rw [List.length_drop]; omega, by omega, fun z hz => h3 z (List.mem_of_mem_drop hz), ?_, fun i hi => ?_⟩
  · intro e
    cases ao with
    | none => have := h4 rfl; omega
    | some a => cases e
  · rw [List.length_drop] at hi
    obtain ⟨b, o, e, hc⟩ := h5 (fr + i) (by omega)
    subst e
    refine ⟨b, o + fr, by simp [Addr.add_lit], ?_⟩
    rw [Nat.add_assoc, hc]
    congr 3
    simp [List.getD_eq_getElem?_getD]
theorem drop_small {zs : List Nat} (h : ∀ z ∈ zs, z < 256) (n : Nat) : ∀ z ∈ zs.drop n, z < 256 := fun z hz => h z (List.mem_of_mem_drop hz)
theorem crc_lt {zs : List Nat} (h : ∀ z ∈ zs, z < 256) : Pl.crc zs ≤ 4294967295 := Nat.le_of_lt_succ (Pl.more_lt (by decide) h)
end Go.Proofs.Ytmkmdcoofngkiaa
