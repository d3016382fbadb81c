/- A lane that comes in, in memory. Own work. -/
import Derived.Test.YtkhlkbgolonkkaaRows
import Derived.Test.YtkhlkbgolonkkaaLnRun
import Derived.Deep.Slices
import Derived.SizedLaws
import Derived.WalkKit
import Derived.ProofKit
import Derived.OpenShut
import Derived.ShutString
import Derived.ChangeOld
import Derived.Below
namespace Go.Proofs.Ytkhlkbgolonkkaa
open Go.RowKit Go.ChangeShapes Go.WideShapes
theorem four_list {α : Type} {cs : List α} {x0 x1 x2 x3 : α} (h : cs.length = 4) (h0 : (cs.drop 0).take 1 = [x0]) (h1 : (cs.drop 1).take 1 = [x1]) (h2 : (cs.drop 2).take 1 = [x2]) (h3 : (cs.drop 3).take 1 = [x3]) : cs = [x0, x1, x2, x3] := by
  match cs, h with
  | [a, b, c, d], _ => simp_all
theorem u64_nat {n : Int} (h : (Lit.int .u64 n).wf = true) : ∃ m : Nat, n = (m : Int) ∧ m < 18446744073709551616 := by
  simp [Lit.wf] at h
  have h1 : 0 ≤ n := h.1
  have h2 : n ≤ 18446744073709551615 := h.2
  exact ⟨n.toNat, by omega, by omega⟩
theorem some_in {α : Type} {xs : List α} {n i : Nat} (h : xs.length = n) (hi : i < n) : ∃ y, xs[i]? = some y := ⟨xs[i], List.getElem?_eq_getElem (by omega)⟩
section
variable {H : Type} {enc : TypeId × Value → H} {W : World} {base : Nat} {held : Bool}
theorem run1_opened {fuel : Nat} {cs : List Value} {x : DataW H × List MemPlace} (h : DataW.trod enc Try.prog W base (fun _ => true) held fuel 30 cs = some x) :
    ∃ y : R4, cs = [.int .i64 y.k, .string y.s, .int .u64 (y.b : Int), .int .u64 (y.p : Int)] ∧ R4.ok y := by
  obtain ⟨xs, n, _, _, hl, hlen, hf⟩ := DataW.trod_struct Try.underlying30 h
  have hlen4 : xs.length = 4 := hlen
  obtain ⟨y0, e0⟩ := some_in hlen4 (show 0 < 4 by decide)
  obtain ⟨y1, e1⟩ := some_in hlen4 (show 1 < 4 by decide)
  obtain ⟨y2, e2⟩ := some_in hlen4 (show 2 < 4 by decide)
  obtain ⟨y3, e3⟩ := some_in hlen4 (show 3 < 4 by decide)
  obtain ⟨k, hk, _, _⟩ := DataW.trod_int Try.underlying3 ((hf 0 _ rfl).trans e0)
  obtain ⟨s, hs, _, _⟩ := DataW.trod_string Try.underlying9 ((hf 1 _ rfl).trans e1)
  obtain ⟨b, hb, _, wb⟩ := DataW.trod_int Try.underlying22 ((hf 2 _ rfl).trans e2)
  obtain ⟨p, hp, _, wp⟩ := DataW.trod_int Try.underlying22 ((hf 3 _ rfl).trans e3)
  have c3 : Try.prog.cellsOf 3 = 1 := by kernel_rfl
  have c9 : Try.prog.cellsOf 9 = 1 := by kernel_rfl
  have c6 : Try.prog.cellsOf 22 = 1 := by kernel_rfl
  have cS : Try.prog.cellsOf 30 = 4 := by kernel_rfl
  change List.take (Try.prog.cellsOf 3) (List.drop 0 cs) = _ at hk
  change List.take (Try.prog.cellsOf 9) (List.drop 1 cs) = _ at hs
  change List.take (Try.prog.cellsOf 22) (List.drop 2 cs) = _ at hb
  change List.take (Try.prog.cellsOf 22) (List.drop 3 cs) = _ at hp
  rw [c3] at hk
  rw [c9] at hs
  rw [c6] at hb hp
  obtain ⟨bb, rfl, ba⟩ := u64_nat wb
  obtain ⟨pp, rfl, pa⟩ := u64_nat wp
  exact ⟨⟨k, s, bb, pp⟩, four_list (by rw [hl, cS]) hk hs hb hp, ba, pa⟩
theorem runs_opened {fuel : Nat} {cs : List Value} {x : DataW H × List MemPlace} (h : DataW.trod enc Try.prog W base (fun _ => true) held fuel 23 cs = some x) : ∃ v xs, cs = [v] ∧ Rn W v xs ∧ (xs.length = 0 ∨ ∃ el sp, x.1 = .slice el sp ∧ xs.length = el.length) := by
  rcases Go.Deep.open_slice Try.underlying23 h with ⟨rfl, _⟩ | ⟨a, len, cap, m, n, D, Pl, rfl, _, hl, hm, hmm, rfl, hx⟩
  · exact ⟨_, [], rfl, ⟨none, 0, rfl, Nat.le_refl _, Nat.zero_le _, fun _ h => (by cases h), fun i hi => by simp at hi⟩, .inl rfl⟩
  · have cS : Try.prog.cellsOf 30 = 4 := by kernel_rfl
    rw [cS] at hx
    have hmc : m = cap := by simpa using hmm
    haveI : Inhabited R4 := ⟨⟨0, ⟨#[]⟩, 0, 0⟩⟩
    obtain ⟨F, hF⟩ := Go.Deep.choose_lt (α := R4) (n := len) (p := fun i y => R4.ok y ∧ ∀ j v, ([.int .i64 y.k, .string y.s, .int .u64 (y.b : Int), .int .u64 (y.p : Int)] : List Value)[j]? = some v → W.cell? ((a.add (i * 4)).add j) = some v) (fun i hi => by
      obtain ⟨cs', h1, h2⟩ := hx i (by omega)
      obtain ⟨y, rfl, hb⟩ := run1_opened h2
      obtain ⟨_, _, hc⟩ := World.cells?_some h1
      refine ⟨y, hb, fun j v hj => ?_⟩
      rw [hc j (by have := (List.getElem?_eq_some_iff.1 hj).1; simpa using this)]
      exact hj)
    refine ⟨_, (List.range len).map F, rfl, ⟨some a, cap, by simp, by simpa using hl, hm, fun y hy => ?_, fun i hi => ?_⟩, .inr ⟨_, _, rfl, by simp⟩⟩
    · obtain ⟨i, hi, rfl⟩ := List.mem_map.1 hy
      exact (hF i (by simpa using hi)).1
    · have hi' : i < len := by simpa using hi
      obtain ⟨_, hc⟩ := hF i hi'
      have hget : ((List.range len).map F)[i] = F i := by simp
      rw [hget]
      obtain ⟨b, o, sp⟩ := a
      cases sp with
      | some q => exact absurd (World.cell?_spot ((hF 0 (by omega)).2 0 _ rfl)) (by simp [Addr.add])
      | none =>
        simp only [Go.WideShapes.add_plain] at hc
        exact ⟨b, o, rfl, hc 0 _ rfl, hc 1 _ rfl, hc 2 _ rfl, hc 3 _ rfl⟩
theorem lane_opened {fuel : Nat} {cs : List Value} {x : DataW H × List MemPlace} (h : DataW.trod enc Try.prog W base (fun _ => true) held fuel 25 cs = some x) :
    ∃ q cp nd v xs, cs = [.int .i64 q, .int .u64 cp, .bool nd, v] ∧ Rn W v xs := by
  obtain ⟨ys, n, _, _, hl, hlen, hf⟩ := DataW.trod_struct Try.underlying25 h
  have hlen4 : ys.length = 4 := hlen
  obtain ⟨y0, e0⟩ := some_in hlen4 (show 0 < 4 by decide)
  obtain ⟨y1, e1⟩ := some_in hlen4 (show 1 < 4 by decide)
  obtain ⟨y2, e2⟩ := some_in hlen4 (show 2 < 4 by decide)
  obtain ⟨y3, e3⟩ := some_in hlen4 (show 3 < 4 by decide)
  obtain ⟨q, hq, _, _⟩ := DataW.trod_int Try.underlying3 ((hf 0 _ rfl).trans e0)
  obtain ⟨cp, hcp, _, _⟩ := DataW.trod_int Try.underlying22 ((hf 1 _ rfl).trans e1)
  obtain ⟨nd, hnd, _⟩ := DataW.trod_bool Try.underlying4 ((hf 2 _ rfl).trans e2)
  obtain ⟨v, xs, hv, hx, _⟩ := runs_opened ((hf 3 _ rfl).trans e3)
  have c3 : Try.prog.cellsOf 3 = 1 := by kernel_rfl
  have c9 : Try.prog.cellsOf 4 = 1 := by kernel_rfl
  have c6 : Try.prog.cellsOf 22 = 1 := by kernel_rfl
  have c7 : Try.prog.cellsOf 23 = 1 := by kernel_rfl
  have cS : Try.prog.cellsOf 25 = 4 := by kernel_rfl
  change List.take (Try.prog.cellsOf 3) (List.drop 0 cs) = _ at hq
  change List.take (Try.prog.cellsOf 22) (List.drop 1 cs) = _ at hcp
  change List.take (Try.prog.cellsOf 4) (List.drop 2 cs) = _ at hnd
  change List.take (Try.prog.cellsOf 23) (List.drop 3 cs) = _ at hv
  rw [c3] at hq
  rw [c6] at hcp
  rw [c9] at hnd
  rw [c7] at hv
  exact ⟨q, cp, nd, v, xs, four_list (by rw [hl, cS]) hq hcp hnd hv, hx⟩
end
end Go.Proofs.Ytkhlkbgolonkkaa
