/- An entry that is handed in, opened. Own work. -/
import Derived.Test.YtgahkheegnppaaaWkEnt
import Derived.OpenShut
import Derived.ProofKit
import Derived.ChangeSame
import Derived.Deep.Slices
namespace Go.Proofs.Ytgahkheegnppaaa
open Go.RowKit Go.ChangeShapes Go.WideShapes Wk
theorem u64_in {n : Int} (h : (Lit.int .u64 n).wf = true) : 0 ≤ n ∧ n < 18446744073709551616 := by
  simp [Lit.wf] at h
  have h1 : 0 ≤ n := h.1
  have h2 : n ≤ 18446744073709551615 := h.2
  omega
theorem five_list {α : Type} {cs : List α} {x0 x1 x2 x3 x4 : α} (h : cs.length = 5) (h0 : (cs.drop 0).take 1 = [x0]) (h1 : (cs.drop 1).take 1 = [x1]) (h2 : (cs.drop 2).take 1 = [x2]) (h3 : (cs.drop 3).take 1 = [x3]) (h4 : (cs.drop 4).take 1 = [x4]) : cs = [x0, x1, x2, x3, x4] := by
  match cs, h with
  | [a, b, c, d, e], _ => simp_all
theorem some_in {α : Type} {xs : List α} {n i : Nat} (h : xs.length = n) (hi : i < n) : ∃ y, xs[i]? = some y := ⟨xs[i], List.getElem?_eq_getElem (by omega)⟩
section
variable {H : Type} {enc : TypeId × Value → H} {W : World} {base : Nat} {held : Bool}
theorem ent_opened {fuel : Nat} {cs : List Value} {x : DataW H × List MemPlace} (h : DataW.trod enc Try.prog W base (fun _ => true) held fuel 24 cs = some x) :
    ∃ y : Ent, cs = [.int .u64 (y.1 : Int), .bool y.2.1, .bool y.2.2.1, .bool y.2.2.2.1, .bool y.2.2.2.2] ∧ y.1 < 18446744073709551616 := by
  obtain ⟨xs, n, _, _, hl, hlen, hf⟩ := DataW.trod_struct Try.underlying24 h
  have hlen5 : xs.length = 5 := hlen
  obtain ⟨y0, e0⟩ := some_in hlen5 (show 0 < 5 by decide)
  obtain ⟨y1, e1⟩ := some_in hlen5 (show 1 < 5 by decide)
  obtain ⟨y2, e2⟩ := some_in hlen5 (show 2 < 5 by decide)
  obtain ⟨y3, e3⟩ := some_in hlen5 (show 3 < 5 by decide)
  obtain ⟨y4, e4⟩ := some_in hlen5 (show 4 < 5 by decide)
  obtain ⟨nn, hn, _, hw⟩ := DataW.trod_int Try.underlying22 ((hf 0 _ rfl).trans e0)
  obtain ⟨b1, h1, _⟩ := DataW.trod_bool Try.underlying4 ((hf 1 _ rfl).trans e1)
  obtain ⟨b2, h2, _⟩ := DataW.trod_bool Try.underlying4 ((hf 2 _ rfl).trans e2)
  obtain ⟨b3, h3, _⟩ := DataW.trod_bool Try.underlying4 ((hf 3 _ rfl).trans e3)
  obtain ⟨b4, h4, _⟩ := DataW.trod_bool Try.underlying4 ((hf 4 _ rfl).trans e4)
  have c4 : Try.prog.cellsOf 4 = 1 := by kernel_rfl
  have c26 : Try.prog.cellsOf 22 = 1 := by kernel_rfl
  have c28 : Try.prog.cellsOf 24 = 5 := by kernel_rfl
  change List.take (Try.prog.cellsOf 22) (List.drop 0 cs) = _ at hn
  change List.take (Try.prog.cellsOf 4) (List.drop 1 cs) = _ at h1
  change List.take (Try.prog.cellsOf 4) (List.drop 2 cs) = _ at h2
  change List.take (Try.prog.cellsOf 4) (List.drop 3 cs) = _ at h3
  change List.take (Try.prog.cellsOf 4) (List.drop 4 cs) = _ at h4
  rw [c4] at h1 h2 h3 h4
  rw [c26] at hn
  obtain ⟨p0, p1⟩ := u64_in hw
  obtain ⟨m, rfl⟩ := Int.eq_ofNat_of_zero_le p0
  exact ⟨(m, b1, b2, b3, b4), five_list (by rw [hl, c28]) hn h1 h2 h3 h4, (by show m < 18446744073709551616; omega)⟩
end
end Go.Proofs.Ytgahkheegnppaaa
