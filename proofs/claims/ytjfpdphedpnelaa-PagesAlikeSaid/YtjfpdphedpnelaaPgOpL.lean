/- Rows of leaves that come in, in memory. Own work. -/
import Derived.Test.YtjfpdphedpnelaaRows
import Derived.Test.YtjfpdphedpnelaaPgRs
import Derived.Deep.Slices
import Derived.SizedLaws
import Derived.WalkKit
import Derived.ProofKit
import Derived.OpenShut
import Derived.ShutString
import Derived.ChangeOld
import Derived.Below
namespace Go.Proofs.Ytjfpdphedpnelaa
open Go.RowKit Go.ChangeShapes Go.WideShapes
theorem six_list {α : Type} {cs : List α} {x0 x1 x2 x3 x4 x5 : α} (h : cs.length = 6) (h0 : (cs.drop 0).take 1 = [x0]) (h1 : (cs.drop 1).take 1 = [x1]) (h2 : (cs.drop 2).take 1 = [x2]) (h3 : (cs.drop 3).take 1 = [x3]) (h4 : (cs.drop 4).take 1 = [x4]) (h5 : (cs.drop 5).take 1 = [x5]) : cs = [x0, x1, x2, x3, x4, x5] := by
  match cs, h with
  | [a, b, c, d, e, f], _ => simp_all
theorem u64_nat {n : Int} (h : (Lit.int .u64 n).wf = true) : ∃ m : Nat, n = (m : Int) ∧ m ≤ 18446744073709551615 := by
  simp [Lit.wf] at h
  have h1 : 0 ≤ n := h.1
  have h2 : n ≤ 18446744073709551615 := h.2
  exact ⟨n.toNat, by omega, by omega⟩
theorem i64_in {n : Int} (h : (Lit.int .i64 n).wf = true) : -9223372036854775808 ≤ n ∧ n ≤ 9223372036854775807 := by
  simp [Lit.wf] at h
  have h1 : -9223372036854775808 ≤ n := h.1
  have h2 : n ≤ 9223372036854775807 := h.2
  exact ⟨h1, h2⟩
theorem some_in {α : Type} {xs : List α} {n i : Nat} (h : xs.length = n) (hi : i < n) : ∃ y, xs[i]? = some y := ⟨xs[i], List.getElem?_eq_getElem (by omega)⟩
section
variable {H : Type} {enc : TypeId × Value → H} {W : World} {base : Nat} {held : Bool}
theorem leaf1_opened {fuel : Nat} {cs : List Value} {x : DataW H × List MemPlace} (h : DataW.trod enc Try.prog W base (fun _ => true) held fuel 34 cs = some x) :
    ∃ y : L6, cs = [.int .u64 (y.v : Int), .int .u64 (y.p : Int), .int .i64 y.n, .bool y.big, .bool y.wr, .bool y.ex] ∧ L6.ok y := by
  obtain ⟨xs, n, _, _, hl, hlen, hf⟩ := DataW.trod_struct Try.underlying34 h
  have hlen6 : xs.length = 6 := hlen
  obtain ⟨y0, e0⟩ := some_in hlen6 (show 0 < 6 by decide)
  obtain ⟨y1, e1⟩ := some_in hlen6 (show 1 < 6 by decide)
  obtain ⟨y2, e2⟩ := some_in hlen6 (show 2 < 6 by decide)
  obtain ⟨y3, e3⟩ := some_in hlen6 (show 3 < 6 by decide)
  obtain ⟨y4, e4⟩ := some_in hlen6 (show 4 < 6 by decide)
  obtain ⟨y5, e5⟩ := some_in hlen6 (show 5 < 6 by decide)
  obtain ⟨v, hv, _, wv⟩ := DataW.trod_int Try.underlying23 ((hf 0 _ rfl).trans e0)
  obtain ⟨p, hp, _, wp⟩ := DataW.trod_int Try.underlying23 ((hf 1 _ rfl).trans e1)
  obtain ⟨k, hk, _, wk⟩ := DataW.trod_int Try.underlying3 ((hf 2 _ rfl).trans e2)
  obtain ⟨b3, h3, _⟩ := DataW.trod_bool Try.underlying4 ((hf 3 _ rfl).trans e3)
  obtain ⟨b4, h4, _⟩ := DataW.trod_bool Try.underlying4 ((hf 4 _ rfl).trans e4)
  obtain ⟨b5, h5, _⟩ := DataW.trod_bool Try.underlying4 ((hf 5 _ rfl).trans e5)
  have c3 : Try.prog.cellsOf 3 = 1 := by kernel_rfl
  have c9 : Try.prog.cellsOf 4 = 1 := by kernel_rfl
  have c6 : Try.prog.cellsOf 23 = 1 := by kernel_rfl
  have cS : Try.prog.cellsOf 34 = 6 := by kernel_rfl
  change List.take (Try.prog.cellsOf 23) (List.drop 0 cs) = _ at hv
  change List.take (Try.prog.cellsOf 23) (List.drop 1 cs) = _ at hp
  change List.take (Try.prog.cellsOf 3) (List.drop 2 cs) = _ at hk
  change List.take (Try.prog.cellsOf 4) (List.drop 3 cs) = _ at h3
  change List.take (Try.prog.cellsOf 4) (List.drop 4 cs) = _ at h4
  change List.take (Try.prog.cellsOf 4) (List.drop 5 cs) = _ at h5
  rw [c6] at hv hp
  rw [c3] at hk
  rw [c9] at h3 h4 h5
  obtain ⟨vv, rfl, va⟩ := u64_nat wv
  obtain ⟨pp, rfl, pa⟩ := u64_nat wp
  have ka := i64_in wk
  exact ⟨⟨vv, pp, k, b3, b4, b5⟩, six_list (by rw [hl, cS]) hv hp hk h3 h4 h5, va, pa, ka.1, ka.2⟩
theorem leaves_opened {fuel : Nat} {cs : List Value} {x : DataW H × List MemPlace} (h : DataW.trod enc Try.prog W base (fun _ => true) held fuel 22 cs = some x) : ∃ v xs, cs = [v] ∧ Lv W v xs := by
  rcases Go.Deep.open_slice Try.underlying22 h with ⟨rfl, _⟩ | ⟨a, len, cap, m, n, D, Pl, rfl, _, hl, hm, hmm, rfl, hx⟩
  · exact ⟨_, [], rfl, none, 0, rfl, Nat.le_refl _, Nat.zero_le _, fun _ h => (by cases h), fun i hi => by simp at hi⟩
  · have cS : Try.prog.cellsOf 34 = 6 := by kernel_rfl
    rw [cS] at hx
    have hmc : m = cap := by simpa using hmm
    haveI : Inhabited L6 := ⟨⟨0, 0, 0, false, false, false⟩⟩
    obtain ⟨F, hF⟩ := Go.Deep.choose_lt (α := L6) (n := len) (p := fun i y => L6.ok y ∧ ∀ j v, ([.int .u64 (y.v : Int), .int .u64 (y.p : Int), .int .i64 y.n, .bool y.big, .bool y.wr, .bool y.ex] : List Value)[j]? = some v → W.cell? ((a.add (i * 6)).add j) = some v) (fun i hi => by
      obtain ⟨cs', h1, h2⟩ := hx i (by omega)
      obtain ⟨y, rfl, hb⟩ := leaf1_opened h2
      obtain ⟨_, _, hc⟩ := World.cells?_some h1
      refine ⟨y, hb, fun j v hj => ?_⟩
      rw [hc j (by have := (List.getElem?_eq_some_iff.1 hj).1; simpa using this)]
      exact hj)
    refine ⟨_, (List.range len).map F, rfl, some a, cap, by simp, by simpa using hl, hm, fun y hy => ?_, fun i hi => ?_⟩
    · obtain ⟨i, hi, rfl⟩ := List.mem_map.1 hy
      exact (hF i (by simpa using hi)).1
    · have hi' : i < len := by simpa using hi
      obtain ⟨_, hc⟩ := hF i hi'
      have hget : ((List.range len).map F)[i] = F i := by simp
      rw [hget]
      obtain ⟨b, o, sp⟩ := a
      cases sp with
      | some q => exact absurd (World.cell?_spot ((hF 0 (by omega)).2 0 _ rfl)) (by simp [Addr.add])
      | none =>
        simp only [Go.WideShapes.add_plain] at hc
        exact ⟨b, o, rfl, hc 0 _ rfl, hc 1 _ rfl, hc 2 _ rfl, hc 3 _ rfl, hc 4 _ rfl, hc 5 _ rfl⟩
end
end Go.Proofs.Ytjfpdphedpnelaa
