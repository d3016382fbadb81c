/- Store. Own work. -/
import Derived.Test.YtmaahompmgmkfaaBAcc
namespace Go.Proofs.Ytmaahompmgmkfaa
open Go.RowKit Go.Maps Go.Proofs.Ytmaahompmgmkfaa.Sp
def StorePost (w : World) (m B : Nat) (V : Value × Value × Value) (T : Nat → Option Nat) (M : Nat → Nat) (rs ds : List Sp) (L S X a n v : Nat) (e : Ending) (w' : World) : Prop :=
  ∃ x b, OffR (rs ++ ds) a n x b ∧ e = .returned (FaultV (if b then 30 else 0) x) ∧ Keeps (fun j => j = m ∨ Foot B T j) w w' ∧ (b = true → Mac w' m B V T M rs ds L S (X + 1)) ∧ (b = false → ∃ T', Mac w' m B V T' (putAt M a ((Pl.le 8 v).take n)) rs ds L (S + 1) X ∧ Grows w.heap.size T T')
end Go.Proofs.Ytmaahompmgmkfaa
