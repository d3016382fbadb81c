/- A script of steps that is handed in, opened. Own work. -/
import Derived.Test.YtogcpogoamoljaaSpStepP
import Derived.Deep.Slices
import Derived.OpenShut
namespace Go.Proofs.Ytogcpogoamoljaa
open Go.RowKit Go.ChangeShapes Go.WideShapes
theorem six_list {α : Type} {cs : List α} {x0 x1 x2 x3 x4 x5 : α} (h : cs.length = 6) (h0 : (cs.drop 0).take 1 = [x0]) (h1 : (cs.drop 1).take 1 = [x1]) (h2 : (cs.drop 2).take 1 = [x2]) (h3 : (cs.drop 3).take 1 = [x3]) (h4 : (cs.drop 4).take 1 = [x4]) (h5 : (cs.drop 5).take 1 = [x5]) : cs = [x0, x1, x2, x3, x4, x5] := by
  match cs, h with
  | [a, b, c, d, e, f], _ => simp_all
theorem some_of {α : Type} {xs : List α} {n i : Nat} (h : xs.length = n) (hi : i < n) : ∃ y, xs[i]? = some y := ⟨xs[i], List.getElem?_eq_getElem (by omega)⟩
section
variable {H : Type} {enc : TypeId × Value → H} {W : World} {base : Nat} {held : Bool}
theorem step_opened {fuel : Nat} {cs : List Value} {x : DataW H × List MemPlace} (h : DataW.trod enc Try.prog W base (fun _ => true) held fuel 39 cs = some x) :
    ∃ st : PStep, cs = [.int .i64 st.kind, .int .i64 st.a, .int .i64 st.b, .int .u64 st.x, .int .u64 st.y, st.l] ∧ (0 ≤ st.x ∧ st.x ≤ 18446744073709551615) ∧ (0 ≤ st.y ∧ st.y ≤ 18446744073709551615) ∧ ∃ a n c, st.l = .slice a n c := by
  obtain ⟨xs, n, _, _, hl, hlen, hf⟩ := DataW.trod_struct Try.underlying39 h
  have hlen6 : xs.length = 6 := hlen
  obtain ⟨y0, e0⟩ := some_of hlen6 (show 0 < 6 by decide)
  obtain ⟨y1, e1⟩ := some_of hlen6 (show 1 < 6 by decide)
  obtain ⟨y2, e2⟩ := some_of hlen6 (show 2 < 6 by decide)
  obtain ⟨y3, e3⟩ := some_of hlen6 (show 3 < 6 by decide)
  obtain ⟨y4, e4⟩ := some_of hlen6 (show 4 < 6 by decide)
  obtain ⟨y5, e5⟩ := some_of hlen6 (show 5 < 6 by decide)
  obtain ⟨k, hk, _, _⟩ := DataW.trod_int Try.underlying3 ((hf 0 _ rfl).trans e0)
  obtain ⟨sa, ha, _, _⟩ := DataW.trod_int Try.underlying3 ((hf 1 _ rfl).trans e1)
  obtain ⟨sb, hb, _, _⟩ := DataW.trod_int Try.underlying3 ((hf 2 _ rfl).trans e2)
  obtain ⟨sx, hx, _, wx⟩ := DataW.trod_int Try.underlying30 ((hf 3 _ rfl).trans e3)
  obtain ⟨sy, hy, _, wy⟩ := DataW.trod_int Try.underlying30 ((hf 4 _ rfl).trans e4)
  obtain ⟨a, n', c, hs⟩ : ∃ a n c, _ = [Value.slice a n c] := by
    rcases open_ints Try.underlying37 Try.underlying30 (by kernel_rfl) ((hf 5 _ rfl).trans e5) with ⟨r, _⟩ | ⟨a, l, c, zs, r, _⟩
    · exact ⟨_, _, _, r⟩
    · exact ⟨_, _, _, r⟩
  have c3 : Try.prog.cellsOf 3 = 1 := by kernel_rfl
  have c30 : Try.prog.cellsOf 30 = 1 := by kernel_rfl
  have c37 : Try.prog.cellsOf 37 = 1 := by kernel_rfl
  have c39 : Try.prog.cellsOf 39 = 6 := by kernel_rfl
  change List.take (Try.prog.cellsOf 3) (List.drop 0 cs) = _ at hk
  change List.take (Try.prog.cellsOf 3) (List.drop 1 cs) = _ at ha
  change List.take (Try.prog.cellsOf 3) (List.drop 2 cs) = _ at hb
  change List.take (Try.prog.cellsOf 30) (List.drop 3 cs) = _ at hx
  change List.take (Try.prog.cellsOf 30) (List.drop 4 cs) = _ at hy
  change List.take (Try.prog.cellsOf 37) (List.drop 5 cs) = _ at hs
  rw [c3] at hk ha hb
  rw [c30] at hx hy
  rw [c37] at hs
  exact ⟨⟨k, sa, sb, sx, sy, .slice a n' c⟩, six_list (by rw [hl, c39]) hk ha hb hx hy hs, bounds_u64 wx, bounds_u64 wy, a, n', c, rfl⟩
/-- a script that is read, as steps in memory -/
theorem pscr_opened {fuel : Nat} {cs : List Value} {x : DataW H × List MemPlace} (h : DataW.trod enc Try.prog W base (fun _ => true) held fuel 22 cs = some x) : ∃ v os, cs = [v] ∧ PScr W v os := by
  rcases Go.Deep.open_slice Try.underlying22 h with ⟨rfl, _⟩ | ⟨a, len, cap, m, n, D, Pl, rfl, _, hl, hm, hmm, _, hx⟩
  · exact ⟨_, [], rfl, none, 0, rfl, Nat.le_refl _, Nat.zero_le _, fun i hi => by simp at hi⟩
  · have c39 : Try.prog.cellsOf 39 = 6 := by kernel_rfl
    rw [c39] at hx
    have hmc : m = cap := by simpa using hmm
    haveI : Inhabited PStep := ⟨⟨0, 0, 0, 0, 0, .slice none 0 0⟩⟩
    obtain ⟨F, hF⟩ := Go.Deep.choose_lt (α := PStep) (n := len) (p := fun i st => ((0 ≤ st.x ∧ st.x ≤ 18446744073709551615) ∧ (0 ≤ st.y ∧ st.y ≤ 18446744073709551615) ∧ ∃ a n c, st.l = .slice a n c) ∧ ∀ j v, ([.int .i64 st.kind, .int .i64 st.a, .int .i64 st.b, .int .u64 st.x, .int .u64 st.y, st.l] : List Value)[j]? = some v → W.cell? ((a.add (i * 6)).add j) = some v) (fun i hi => by
      obtain ⟨cs', h1, h2⟩ := hx i (by omega)
      obtain ⟨st, rfl, hst⟩ := step_opened h2
      obtain ⟨_, _, hc⟩ := World.cells?_some h1
      refine ⟨st, hst, fun j v hj => ?_⟩
      rw [hc j (by have := (List.getElem?_eq_some_iff.1 hj).1; simpa using this)]
      exact hj)
    refine ⟨_, (List.range len).map F, rfl, some a, cap, by simp, by simpa using hl, hm, fun i hi => ?_⟩
    have hi' : i < len := by simpa using hi
    obtain ⟨hst, hc⟩ := hF i hi'
    have hget : ((List.range len).map F)[i] = F i := by simp
    rw [hget]
    obtain ⟨b, o, sp⟩ := a
    cases sp with
    | some q => exact absurd (World.cell?_spot ((hF 0 (by omega)).2 0 _ rfl)) (by simp [Addr.add])
    | none =>
      simp only [Go.WideShapes.add_plain] at hc
      exact ⟨b, o, rfl, hst.1, hst.2.1, hst.2.2, hc 0 _ rfl, hc 1 _ rfl, hc 2 _ rfl, hc 3 _ rfl, hc 4 _ rfl, hc 5 _ rfl⟩
end
end Go.Proofs.Ytogcpogoamoljaa
