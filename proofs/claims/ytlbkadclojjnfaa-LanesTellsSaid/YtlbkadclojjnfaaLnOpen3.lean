/- Slots that come in, in memory. Own work. -/
import Derived.Test.YtlbkadclojjnfaaRows
import Derived.Test.YtlbkadclojjnfaaLnOpen
import Derived.Test.YtlbkadclojjnfaaLnTel
import Derived.Deep.Slices
import Derived.SizedLaws
import Derived.WalkKit
import Derived.ProofKit
import Derived.OpenShut
import Derived.ShutString
import Derived.ChangeOld
import Derived.Below
namespace Go.Proofs.Ytlbkadclojjnfaa
open Go.RowKit Go.ChangeShapes Go.WideShapes
theorem three_list {α : Type} {cs : List α} {x0 x1 x2 : α} (h : cs.length = 3) (h0 : (cs.drop 0).take 1 = [x0]) (h1 : (cs.drop 1).take 1 = [x1]) (h2 : (cs.drop 2).take 1 = [x2]) : cs = [x0, x1, x2] := by
  match cs, h with
  | [a, b, c], _ => simp_all
section
variable {H : Type} {enc : TypeId × Value → H} {W : World} {base : Nat} {held : Bool}
theorem sl1_opened {fuel : Nat} {cs : List Value} {x : DataW H × List MemPlace} (h : DataW.trod enc Try.prog W base (fun _ => true) held fuel 33 cs = some x) :
    ∃ y : S3, cs = [.string y.s, .int .i64 y.f, .int .i64 y.t] ∧ I64 y := by
  obtain ⟨xs, n, _, _, hl, hlen, hf⟩ := DataW.trod_struct Try.underlying33 h
  have hlen2 : xs.length = 3 := hlen
  obtain ⟨y0, e0⟩ : ∃ y, xs[0]? = some y := ⟨xs[0], List.getElem?_eq_getElem (by omega)⟩
  obtain ⟨y1, e1⟩ : ∃ y, xs[1]? = some y := ⟨xs[1], List.getElem?_eq_getElem (by omega)⟩
  obtain ⟨y2, e2⟩ : ∃ y, xs[2]? = some y := ⟨xs[2], List.getElem?_eq_getElem (by omega)⟩
  obtain ⟨s, hs, _, _⟩ := DataW.trod_string Try.underlying9 ((hf 0 _ rfl).trans e0)
  obtain ⟨a, ha, _, wa⟩ := DataW.trod_int Try.underlying3 ((hf 1 _ rfl).trans e1)
  obtain ⟨b, hb, _, wb⟩ := DataW.trod_int Try.underlying3 ((hf 2 _ rfl).trans e2)
  have c3 : Try.prog.cellsOf 3 = 1 := by kernel_rfl
  have c9 : Try.prog.cellsOf 9 = 1 := by kernel_rfl
  have cS : Try.prog.cellsOf 33 = 3 := by kernel_rfl
  change List.take (Try.prog.cellsOf 9) (List.drop 0 cs) = _ at hs
  change List.take (Try.prog.cellsOf 3) (List.drop 1 cs) = _ at ha
  change List.take (Try.prog.cellsOf 3) (List.drop 2 cs) = _ at hb
  rw [c9] at hs
  rw [c3] at ha hb
  have ba := bounds_i64 wa
  have bb := bounds_i64 wb
  exact ⟨⟨s, a, b⟩, three_list (by rw [hl, cS]) hs ha hb, ba.1, ba.2, bb.1, bb.2⟩
theorem sls_opened {fuel : Nat} {cs : List Value} {x : DataW H × List MemPlace} (h : DataW.trod enc Try.prog W base (fun _ => true) held fuel 22 cs = some x) : ∃ v xs, cs = [v] ∧ Rs W v xs ∧ (xs.length = 0 ∨ ∃ el sp, x.1 = .slice el sp ∧ xs.length = el.length) := by
  rcases Go.Deep.open_slice Try.underlying22 h with ⟨rfl, _⟩ | ⟨a, len, cap, m, n, D, Pl, rfl, _, hl, hm, hmm, rfl, hx⟩
  · exact ⟨_, [], rfl, ⟨none, 0, rfl, Nat.le_refl _, Nat.zero_le _, fun _ h => (by cases h), fun i hi => by simp at hi⟩, .inl rfl⟩
  · have cS : Try.prog.cellsOf 33 = 3 := by kernel_rfl
    rw [cS] at hx
    have hmc : m = cap := by simpa using hmm
    haveI : Inhabited S3 := ⟨⟨⟨#[]⟩, 0, 0⟩⟩
    obtain ⟨F, hF⟩ := Go.Deep.choose_lt (α := S3) (n := len) (p := fun i y => I64 y ∧ ∀ j v, ([.string y.s, .int .i64 y.f, .int .i64 y.t] : List Value)[j]? = some v → W.cell? ((a.add (i * 3)).add j) = some v) (fun i hi => by
      obtain ⟨cs', h1, h2⟩ := hx i (by omega)
      obtain ⟨y, rfl, hb⟩ := sl1_opened h2
      obtain ⟨_, _, hc⟩ := World.cells?_some h1
      refine ⟨y, hb, fun j v hj => ?_⟩
      rw [hc j (by have := (List.getElem?_eq_some_iff.1 hj).1; simpa using this)]
      exact hj)
    refine ⟨_, (List.range len).map F, rfl, ⟨some a, cap, by simp, by simpa using hl, hm, fun y hy => ?_, fun i hi => ?_⟩, .inr ⟨_, _, rfl, by simp⟩⟩
    · obtain ⟨i, hi, rfl⟩ := List.mem_map.1 hy
      exact (hF i (by simpa using hi)).1
    · have hi' : i < len := by simpa using hi
      obtain ⟨_, hc⟩ := hF i hi'
      have hget : ((List.range len).map F)[i] = F i := by simp
      rw [hget]
      obtain ⟨b, o, sp⟩ := a
      cases sp with
      | some q => exact absurd (World.cell?_spot ((hF 0 (by omega)).2 0 _ rfl)) (by simp [Addr.add])
      | none =>
        simp only [Go.WideShapes.add_plain] at hc
        exact ⟨b, o, rfl, hc 0 _ rfl, hc 1 _ rfl, hc 2 _ rfl⟩
end
end Go.Proofs.Ytlbkadclojjnfaa
