import Derived.Test.YtnifefmfhjfbnaaGreatDoorPk49
import Derived.Test.YtnifefmfhjfbnaaGreatDoorPk44
import Derived.Test.YtnifefmfhjfbnaaGreatDoorPk50
import Derived.Test.YtnifefmfhjfbnaaGreatDoorPk26
/- Bundle: there and back, and there again: the law's back. Own work. -/
namespace Go.Proofs.YtnifefmfhjfbnaaGreatDoor
open Go.RowKit Bn Dc
set_option linter.unusedVariables false
set_option linter.unusedSimpArgs false
theorem SmA.below {w w' : World} {B : Nat} {m : Bool} (h : SmA w B m) (hb : Below w.heap.size w w') : SmA w' B m := by
 have k : ∀ {i : Nat} {o : Obj}, w.heap[i]? = some o → w'.heap[i]? = some o := fun {i o} hi => (hb.block i (Array.getElem?_eq_some_iff.1 hi).1).trans hi
 exact ⟨k h.h1, k h.h2, k h.h3, k h.h4, k h.h5, k h.h6, k h.h7, k h.h8, k h.h9, k h.h10, k h.h11⟩
theorem ld_im {w : World} {b : Nat} {im : List Value} (h : w.heap[b]? = some (.cells im.toArray 37 (0, 0))) (hi : (Tryz.prog.info? 37).map (·.size) = some im.toArray.size) : (Instr.loadAt 37 (.pointer (some ⟨b, 0, none⟩))).run Tryz.prog w = .ok (.agg im.toArray) w := by
 have := run_loadAt_mid (P := Tryz.prog) w b 0 37 im _ (fun j v hv => by
  rw [cell_of_row _ _ _ _ _ _ h, Nat.zero_add]
  simpa using hv) Tryz.underlying37 rfl (by simpa using hi)
 exact this
theorem im_ok {w : World} {im : List Value} {I : Im} (h : ImA w im I) : ImK I := by
 obtain ⟨_, _, _, r⟩ := h.rams
 obtain ⟨_, _, _, d⟩ := h.devs
 obtain ⟨_, _, _, g⟩ := h.regs
 obtain ⟨_, _, _, t⟩ := h.tabs
 exact ⟨h.base.2, r, d, g, t⟩
theorem enc_le {I : Im} (h : szI I ≤ 20000000000) : (encF I).length ≤ maxLen := by
 have h1 := stN_le I 9
 have h2 : 9 * (szI I + 4096) ≤ 9 * (20000000000 + 4096) := Nat.mul_le_mul (Nat.le_refl _) (by omega)
 unfold maxLen
 rw [encF, List.length_append, hdF_len, List.length_drop]
 omega
theorem row_sl {w : World} {g : Nat} {zs : List Nat} (h : Row w g zs) (hz : ∀ z ∈ zs, z < 256) (hm : zs.length ≤ maxLen) : Sl w (.slice (some ⟨g, 0, none⟩) zs.length zs.length) zs := by
 have h9 := sl_of_row (f := 0) (l := zs.length) (c := zs.length) (ad := 0) h hz (by omega) (Nat.le_refl _) hm (.inl rfl)
 rw [List.drop_zero, List.take_of_length_le (Nat.le_refl _)] at h9
 exact h9
namespace Dc
end Dc
/-- a law's answer -/
def LQ (w : World) (e : Ending) (w' : World) : Prop := e = .returned (.bool true) ∧ Below w.heap.size w w'
end Go.Proofs.YtnifefmfhjfbnaaGreatDoor
/- Bundle: the zero image's bytes. Plain. Own work. -/
namespace Go.Proofs.YtnifefmfhjfbnaaGreatDoor
open Bn Dc
set_option linter.unusedVariables false
namespace Dc
end Dc
end Go.Proofs.YtnifefmfhjfbnaaGreatDoor
