/- A lane that comes in, and how long it can be. Own work. -/
import Derived.Test.YtkhlkbgolonkkaaLnOpenL
import Derived.SizedLaws
namespace Go.Proofs.Ytkhlkbgolonkkaa
open Go.RowKit Go.ChangeShapes Go.WideShapes
section
variable {H : Type} {enc : TypeId × Value → H} {W : World} {base : Nat} {held : Bool}
theorem lane_sized {fuel : Nat} {cs : List Value} {x : DataW H × List MemPlace} (h : DataW.trod enc Try.prog W base (fun _ => true) held fuel 25 cs = some x) :
    ∃ q cp nd v xs, cs = [.int .i64 q, .int .u64 cp, .bool nd, v] ∧ Rn W v xs ∧ (xs.length = 0 ∨ ∃ ps el sp, x.1 = .agg ps ∧ ps[3]? = some (.slice el sp) ∧ xs.length = el.length) := by
  obtain ⟨ys, n, _, hxe, hl, hlen, hf⟩ := DataW.trod_struct Try.underlying25 h
  have hlen4 : ys.length = 4 := hlen
  obtain ⟨y0, e0⟩ := some_in hlen4 (show 0 < 4 by decide)
  obtain ⟨y1, e1⟩ := some_in hlen4 (show 1 < 4 by decide)
  obtain ⟨y2, e2⟩ := some_in hlen4 (show 2 < 4 by decide)
  obtain ⟨y3, e3⟩ := some_in hlen4 (show 3 < 4 by decide)
  obtain ⟨q, hq, _, _⟩ := DataW.trod_int Try.underlying3 ((hf 0 _ rfl).trans e0)
  obtain ⟨cp, hcp, _, _⟩ := DataW.trod_int Try.underlying22 ((hf 1 _ rfl).trans e1)
  obtain ⟨nd, hnd, _⟩ := DataW.trod_bool Try.underlying4 ((hf 2 _ rfl).trans e2)
  obtain ⟨v, xs, hv, hx, hsz⟩ := runs_opened ((hf 3 _ rfl).trans e3)
  have c3 : Try.prog.cellsOf 3 = 1 := by kernel_rfl
  have c9 : Try.prog.cellsOf 4 = 1 := by kernel_rfl
  have c6 : Try.prog.cellsOf 22 = 1 := by kernel_rfl
  have c7 : Try.prog.cellsOf 23 = 1 := by kernel_rfl
  have cS : Try.prog.cellsOf 25 = 4 := by kernel_rfl
  change List.take (Try.prog.cellsOf 3) (List.drop 0 cs) = _ at hq
  change List.take (Try.prog.cellsOf 22) (List.drop 1 cs) = _ at hcp
  change List.take (Try.prog.cellsOf 4) (List.drop 2 cs) = _ at hnd
  change List.take (Try.prog.cellsOf 23) (List.drop 3 cs) = _ at hv
  rw [c3] at hq
  rw [c6] at hcp
  rw [c9] at hnd
  rw [c7] at hv
  refine ⟨q, cp, nd, v, xs, four_list (by rw [hl, cS]) hq hcp hnd hv, hx, ?_⟩
  rcases hsz with h0 | ⟨el, sp, h1, h2⟩
  · exact .inl h0
  · refine .inr ⟨_, el, sp, by rw [hxe], ?_, h2⟩
    rw [List.getElem?_map, e3, ← h1]
    rfl
theorem lane_len {ts : List TypeId} {ds : List (DataW H)} (hs : (DataW.weightsEach Try.prog ts ds).all (· ≤ reachBytes) = true) {j : Nat} {ps el sp : List (DataW H)} (ht : ts[j]? = some 25) (hd : ds[j]? = some (.agg ps)) (hp : ps[3]? = some (.slice el sp)) : el.length ≤ 3518437208780 := by
  have hm : (el.length + sp.length) * Try.prog.bytesOf 30 ∈ DataW.weights Try.prog 25 (.agg ps) := by
    simp only [DataW.weights, Try.underlying25]
    refine DataW.weights_mem_each (j := 3) (t := 23) rfl hp _ ?_
    simp only [DataW.weights, Try.underlying23]
    exact List.mem_cons_self
  have h5 := List.all_eq_true.1 hs _ (DataW.weights_mem_each ht hd _ hm)
  have hw : (el.length + sp.length) * Try.prog.bytesOf 30 ≤ reachBytes := by simpa using h5
  rw [show Try.prog.bytesOf 30 = 40 from by kernel_rfl] at hw
  have e3 : reachBytes = 140737488351232 := rfl
  omega
end
end Go.Proofs.Ytkhlkbgolonkkaa
