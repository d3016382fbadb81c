/- A bus that comes in, in memory. Own work. -/
import Derived.Test.YtehedllcdpjebaaRows
import Derived.Test.YtehedllcdpjebaaBMach
import Derived.Deep.Slices
import Derived.SizedLaws
import Derived.WalkKit
import Derived.ProofKit
import Derived.OpenShut
import Derived.ShutString
import Derived.ChangeOld
import Derived.Below
namespace Go.Proofs.Ytehedllcdpjebaa
open Go.RowKit Go.ChangeShapes Go.WideShapes Go.Proofs.Ytehedllcdpjebaa.Sp
theorem two_list {α : Type} {cs : List α} {x0 x1 : α} (h : cs.length = 2) (h0 : (cs.drop 0).take 1 = [x0]) (h1 : (cs.drop 1).take 1 = [x1]) : cs = [x0, x1] := by
  match cs, h with
  | [a, b], _ => simp_all
theorem u64_in {n : Int} (h : (Lit.int .u64 n).wf = true) : 0 ≤ n ∧ n ≤ 18446744073709551615 := by
  simp [Lit.wf] at h
  have h1 : 0 ≤ n := h.1
  have h2 : n ≤ 18446744073709551615 := h.2
  exact ⟨h1, h2⟩
section
variable {H : Type} {enc : TypeId × Value → H} {W : World} {base : Nat} {held : Bool}
set_option maxRecDepth 100000 in
theorem slice_place {r : Reach} {b : Nat} {a : Addr} {len cap : Nat} (h : Cell.okWide Try.prog W r b 49 (.slice (some a) len cap)) : a.spot = none ∧ a.block < W.heap.size := by
  simp only [Cell.okWide, Cell.ok, Try.underlying49, World.has] at h
  obtain ⟨_, _, _, h1, row, cells, h2, _⟩ := h
  refine ⟨h1, ?_⟩
  unfold World.shape? at h2
  by_cases hlt : a.block < W.heap.size
  · exact hlt
  · rw [Array.getElem?_eq_none (by omega)] at h2
    simp at h2
theorem rg1_opened {fuel : Nat} {cs : List Value} {x : DataW H × List MemPlace} (h : DataW.trod enc Try.prog W base (fun _ => true) held fuel 48 cs = some x) :
    ∃ y : Sp, cs = [.int .u64 y.1, .int .u64 y.2] ∧ 0 ≤ y.1 ∧ y.1 ≤ 18446744073709551615 ∧ 0 ≤ y.2 ∧ y.2 ≤ 18446744073709551615 := by
  obtain ⟨xs, n, _, _, hl, hlen, hf⟩ := DataW.trod_struct Try.underlying48 h
  have hlen2 : xs.length = 2 := hlen
  obtain ⟨y0, e0⟩ : ∃ y, xs[0]? = some y := ⟨xs[0], List.getElem?_eq_getElem (by omega)⟩
  obtain ⟨y1, e1⟩ : ∃ y, xs[1]? = some y := ⟨xs[1], List.getElem?_eq_getElem (by omega)⟩
  obtain ⟨a, ha, _, wa⟩ := DataW.trod_int Try.underlying24 ((hf 0 _ rfl).trans e0)
  obtain ⟨b, hb, _, wb⟩ := DataW.trod_int Try.underlying24 ((hf 1 _ rfl).trans e1)
  have c6 : Try.prog.cellsOf 24 = 1 := by kernel_rfl
  have cS : Try.prog.cellsOf 48 = 2 := by kernel_rfl
  change List.take (Try.prog.cellsOf 24) (List.drop 0 cs) = _ at ha
  change List.take (Try.prog.cellsOf 24) (List.drop 1 cs) = _ at hb
  rw [c6] at ha hb
  have ba := u64_in wa
  have bb := u64_in wb
  exact ⟨(a, b), two_list (by rw [hl, cS]) ha hb, ba.1, ba.2, bb.1, bb.2⟩
set_option maxRecDepth 100000 in
theorem rgs_opened {fuel : Nat} {cs : List Value} {x : DataW H × List MemPlace} (hok : ∀ v, cs = [v] → ∃ (r : Reach) (b : Nat), Cell.okWide Try.prog W r b 49 v) (h : DataW.trod enc Try.prog W base (fun _ => true) held fuel 49 cs = some x) : ∃ v xs, cs = [v] ∧ U64.SV W v xs ∧ Fits 18446744073709551615 xs := by
  rcases Go.Deep.open_slice Try.underlying49 h with ⟨rfl, _⟩ | ⟨a, len, cap, m, n, D, Pl, rfl, _, hl, hm, hmm, rfl, hx⟩
  · exact ⟨_, [], rfl, U64.SV.nil W, fun _ h => by cases h⟩
  · have cS : Try.prog.cellsOf 48 = 2 := by kernel_rfl
    rw [cS] at hx
    have hmc : m = cap := by simpa using hmm
    obtain ⟨r, b0, hc0⟩ := hok _ rfl
    obtain ⟨hsp, hlt⟩ := slice_place hc0
    haveI : Inhabited Sp := ⟨(0, 0)⟩
    obtain ⟨F, hF⟩ := Go.Deep.choose_lt (α := Sp) (n := len) (p := fun i y => (0 ≤ y.1 ∧ y.1 ≤ 18446744073709551615 ∧ 0 ≤ y.2 ∧ y.2 ≤ 18446744073709551615) ∧ ∀ j v, ([.int .u64 y.1, .int .u64 y.2] : List Value)[j]? = some v → W.cell? ((a.add (i * 2)).add j) = some v) (fun i hi => by
      obtain ⟨cs', h1, h2⟩ := hx i (by omega)
      obtain ⟨y, rfl, hb⟩ := rg1_opened h2
      obtain ⟨_, _, hc⟩ := World.cells?_some h1
      refine ⟨y, hb, fun j v hj => ?_⟩
      rw [hc j (by have := (List.getElem?_eq_some_iff.1 hj).1; simpa using this)]
      exact hj)
    obtain ⟨b, o, sp⟩ := a
    simp only at hsp hlt
    subst hsp
    refine ⟨_, (List.range len).map F, rfl, ⟨some ⟨b, o, none⟩, cap, by simp, by simpa using hl, hm, fun e => (by cases e), fun a e => (by cases e; exact ⟨b, o, rfl, hlt⟩), fun i hi => ?_⟩, fun y hy => ?_⟩
    · have hi' : i < len := by simpa using hi
      obtain ⟨_, hc⟩ := hF i hi'
      have hget : ((List.range len).map F)[i] = F i := by simp
      rw [hget]
      simp only [Go.WideShapes.add_plain] at hc
      exact ⟨b, o, rfl, hc 0 _ rfl, hc 1 _ rfl⟩
    · obtain ⟨i, hi, rfl⟩ := List.mem_map.1 hy
      exact (hF i (by simpa using hi)).1
set_option maxRecDepth 100000 in
theorem bus_opened {fuel : Nat} {r : Reach} {b : Nat} {cs : Array Value} {x : DataW H × List MemPlace} (hok : Row.okWide Try.prog W r b 51 cs) (h : DataW.trod enc Try.prog W base (fun _ => true) held fuel 51 cs.toList = some x) :
    ∃ vr vd rs ds, cs = #[vr, vd] ∧ U64.SV W vr rs ∧ U64.SV W vd ds ∧ Fits 18446744073709551615 rs ∧ Fits 18446744073709551615 ds := by
  obtain ⟨ts, hts, _, hcell⟩ := hok
  have hts2 : ts = [49, 49] := by
    have : Try.prog.cellTypes Try.prog.depth 51 = some [49, 49] := by kernel_rfl
    rw [this] at hts
    exact (Option.some.inj hts).symm
  subst hts2
  obtain ⟨ys, n, _, _, hl, hlen, hf⟩ := DataW.trod_struct Try.underlying51 h
  have hlen2 : ys.length = 2 := hlen
  obtain ⟨y0, e0⟩ : ∃ y, ys[0]? = some y := ⟨ys[0], List.getElem?_eq_getElem (by omega)⟩
  obtain ⟨y1, e1⟩ : ∃ y, ys[1]? = some y := ⟨ys[1], List.getElem?_eq_getElem (by omega)⟩
  have c7 : Try.prog.cellsOf 49 = 1 := by kernel_rfl
  have cS : Try.prog.cellsOf 51 = 2 := by kernel_rfl
  have hl2 : cs.toList.length = 2 := by rw [hl, cS]
  obtain ⟨v0, v1, rfl⟩ : ∃ v0 v1, cs = #[v0, v1] := by
    match cs, hl2 with
    | ⟨[a, b]⟩, _ => exact ⟨a, b, rfl⟩
  have h0 := (hf 0 _ rfl).trans e0
  have h1 := (hf 1 _ rfl).trans e1
  change DataW.trod enc Try.prog W base (fun _ => true) held n 49 (List.take (Try.prog.cellsOf 49) (List.drop 0 [v0, v1])) = _ at h0
  change DataW.trod enc Try.prog W base (fun _ => true) held n 49 (List.take (Try.prog.cellsOf 49) (List.drop 1 [v0, v1])) = _ at h1
  rw [c7] at h0 h1
  obtain ⟨vr, rs, er, hr, fr⟩ := rgs_opened (fun v e => by
    obtain ⟨u, hu, hc⟩ := hcell 0 v0 rfl
    cases hu
    cases e
    exact ⟨r, b, hc⟩) h0
  obtain ⟨vd, ds, ed, hd, fd⟩ := rgs_opened (fun v e => by
    obtain ⟨u, hu, hc⟩ := hcell 1 v1 rfl
    cases hu
    cases e
    exact ⟨r, b, hc⟩) h1
  cases er
  cases ed
  exact ⟨v0, v1, rs, ds, rfl, hr, hd, fr, fd⟩
end
end Go.Proofs.Ytehedllcdpjebaa
