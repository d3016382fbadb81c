/- Stints that come in, as numbers in memory. Own work. -/
import Derived.Test.YtlbkadclojjnfaaRows
import Derived.Test.YtlbkadclojjnfaaLnWalk
import Derived.Deep.Slices
import Derived.SizedLaws
import Derived.WalkKit
import Derived.ProofKit
import Derived.OpenShut
import Derived.ShutString
import Derived.ChangeOld
import Derived.Below
namespace Go.Proofs.Ytlbkadclojjnfaa
open Go.RowKit Go.ChangeShapes Go.WideShapes
theorem bounds_i64 {n : Int} (h : (Lit.int .i64 n).wf = true) : -9223372036854775808 ≤ n ∧ n ≤ 9223372036854775807 := by
  simp [Lit.wf] at h
  exact h
theorem two_list {α : Type} {cs : List α} {x0 x1 : α} (h : cs.length = 2) (h0 : (cs.drop 0).take 1 = [x0]) (h1 : (cs.drop 1).take 1 = [x1]) : cs = [x0, x1] := by
  match cs, h with
  | [a, b], _ => simp_all
section
variable {H : Type} {enc : TypeId × Value → H} {W : World} {base : Nat} {held : Bool}
theorem st1_opened {fuel : Nat} {cs : List Value} {x : DataW H × List MemPlace} (h : DataW.trod enc Try.prog W base (fun _ => true) held fuel 47 cs = some x) :
    ∃ y : Int × Int, cs = [.int .i64 y.1, .int .i64 y.2] ∧ -9223372036854775808 ≤ y.1 ∧ y.1 ≤ 9223372036854775807 ∧ -9223372036854775808 ≤ y.2 ∧ y.2 ≤ 9223372036854775807 := by
  obtain ⟨xs, n, _, _, hl, hlen, hf⟩ := DataW.trod_struct Try.underlying47 h
  have hlen2 : xs.length = 2 := hlen
  obtain ⟨y0, e0⟩ : ∃ y, xs[0]? = some y := ⟨xs[0], List.getElem?_eq_getElem (by omega)⟩
  obtain ⟨y1, e1⟩ : ∃ y, xs[1]? = some y := ⟨xs[1], List.getElem?_eq_getElem (by omega)⟩
  obtain ⟨a, ha, _, wa⟩ := DataW.trod_int Try.underlying3 ((hf 0 _ rfl).trans e0)
  obtain ⟨b, hb, _, wb⟩ := DataW.trod_int Try.underlying3 ((hf 1 _ rfl).trans e1)
  have c3 : Try.prog.cellsOf 3 = 1 := by kernel_rfl
  have cS : Try.prog.cellsOf 47 = 2 := by kernel_rfl
  change List.take (Try.prog.cellsOf 3) (List.drop 0 cs) = _ at ha
  change List.take (Try.prog.cellsOf 3) (List.drop 1 cs) = _ at hb
  rw [c3] at ha hb
  have ba := bounds_i64 wa
  have bb := bounds_i64 wb
  exact ⟨(a, b), two_list (by rw [hl, cS]) ha hb, ba.1, ba.2, bb.1, bb.2⟩
theorem sts_opened {fuel : Nat} {cs : List Value} {x : DataW H × List MemPlace} (h : DataW.trod enc Try.prog W base (fun _ => true) held fuel 44 cs = some x) : ∃ v xs, cs = [v] ∧ Rd2 W v xs ∧ (xs.length = 0 ∨ ∃ el sp, x.1 = .slice el sp ∧ xs.length = el.length) := by
  rcases Go.Deep.open_slice Try.underlying44 h with ⟨rfl, _⟩ | ⟨a, len, cap, m, n, D, Pl, rfl, _, hl, hm, hmm, rfl, hx⟩
  · exact ⟨_, [], rfl, ⟨none, 0, rfl, Nat.le_refl _, Nat.zero_le _, fun _ h => (by cases h), fun i hi => by simp at hi⟩, .inl rfl⟩
  · have cS : Try.prog.cellsOf 47 = 2 := by kernel_rfl
    rw [cS] at hx
    have hmc : m = cap := by simpa using hmm
    obtain ⟨F, hF⟩ := Go.Deep.choose_lt (α := Int × Int) (n := len) (p := fun i y => (-9223372036854775808 ≤ y.1 ∧ y.1 ≤ 9223372036854775807 ∧ -9223372036854775808 ≤ y.2 ∧ y.2 ≤ 9223372036854775807) ∧ ∀ j v, ([.int .i64 y.1, .int .i64 y.2] : List Value)[j]? = some v → W.cell? ((a.add (i * 2)).add j) = some v) (fun i hi => by
      obtain ⟨cs', h1, h2⟩ := hx i (by omega)
      obtain ⟨y, rfl, hb⟩ := st1_opened h2
      obtain ⟨_, _, hc⟩ := World.cells?_some h1
      refine ⟨y, hb, fun j v hj => ?_⟩
      rw [hc j (by have := (List.getElem?_eq_some_iff.1 hj).1; simpa using this)]
      exact hj)
    refine ⟨_, (List.range len).map F, rfl, ⟨some a, cap, by simp, by simpa using hl, hm, fun y hy => ?_, fun i hi => ?_⟩, .inr ⟨_, _, rfl, by simp⟩⟩
    · obtain ⟨i, hi, rfl⟩ := List.mem_map.1 hy
      exact (hF i (by simpa using hi)).1
    · have hi' : i < len := by simpa using hi
      obtain ⟨_, hc⟩ := hF i hi'
      have hget : ((List.range len).map F)[i] = F i := by simp
      rw [hget]
      obtain ⟨b, o, sp⟩ := a
      cases sp with
      | some q => exact absurd (World.cell?_spot ((hF 0 (by omega)).2 0 _ rfl)) (by simp [Addr.add])
      | none =>
        simp only [Go.WideShapes.add_plain] at hc
        exact ⟨b, o, rfl, hc 0 _ rfl, hc 1 _ rfl⟩
end
end Go.Proofs.Ytlbkadclojjnfaa
