/- A slice that comes in lies in a block that there is. -/
import Derived.Test.YtphdpolbmjmkdaaDoorScIn
namespace Go.Proofs.YtphdpolbmjmkdaaDoor
open Go.ChangeShapes Go.WideShapes Go.ChangeAt Go.RowKit
theorem in_lt {P : Program} {w : World} {r : Reach} {base : Nat} {t e : TypeId} {a : Option Addr} {len cap : Nat} (ht : P.underlying t = some (.slice e)) (h : Value.okWide P w r base t (.slice a len cap)) : ∀ k, Value.ownBlock (.slice a len cap) = some k → k < w.heap.size := by
  intro k hk
  cases a with
  | none => cases hk
  | some x =>
    cases hk
    simp only [Value.okWide, ht, Cell.okWide, Cell.ok] at h
    obtain ⟨_, _, _, _, row, cells, hs, _⟩ := h
    unfold World.shape? at hs
    cases e : w.heap[x.block]? with
    | none => rw [e] at hs; cases hs
    | some o => exact (Array.getElem?_eq_some_iff.1 e).1
end Go.Proofs.YtphdpolbmjmkdaaDoor
