import Derived.Test.YtmfkggngjeolcaaGreatDoorPk17
import Derived.Test.YtmfkggngjeolcaaGreatDoorPk10
import Derived.Test.YtmfkggngjeolcaaGreatDoorPk13
import Derived.Lib.Hide
import Derived.Deep.DeepCutAuto
import Derived.Deep.CutBlock
/- Bundle: a lane is taken. Own work. -/
namespace Go.Proofs.YtmfkggngjeolcaaGreatDoor
open Go.RowKit Bn Dc
set_option linter.unusedVariables false
set_option linter.unusedSimpArgs false
theorem OwnG.zero {β : Type} {t : TypeId} {k : Nat} {enc : β → List Value} {w : World} {base : Nat} {v : Value} {xs : List β} (h : OwnG t k enc w base v xs) : OwnG t k enc w 0 v xs := by
  refine ⟨h.1, ?_⟩
  rcases h.2 with hv | ⟨g, cap, cur, rfl, hbb, rest⟩
  · exact .inl hv
  · exact .inr ⟨g, cap, cur, rfl, Nat.zero_le _, rest⟩
theorem OwnG.rz {β : Type} {t u : TypeId} {k : Nat} {enc : β → List Value} {w w' : World} {base : Nat} {v : Value} {xs : List β} (h : OwnG t k enc w base v xs) (hf : Rz u w w') (h1 : t ≠ 144) (h2 : t ≠ 191) (h3 : t ≠ u) : OwnG t k enc w' base v xs := by
  refine h.keeps hf (fun j e => ?_)
  obtain ⟨_, _, _, _, _, hj⟩ := h.form
  obtain ⟨_, _, ht⟩ := hj j e
  rintro (e | e | e)
  · exact h1 (tag_same ht e)
  · exact h2 (tag_same ht e)
  · exact h3 (tag_same ht e)
/-- a row of lanes that the reader made -/
def LaO (W : World) (v : SlV) (ls : List (List (Int × Int))) : Prop := ∃ us : List SlV, OwnG 75 1 slE W 0 (slE1 v) us ∧ T2 (fun u l => OwnG 74 2 stE W 0 (slE1 u) l) us ls
/-- a row of plans that the reader made -/
def ScO (W : World) (x : Int × SlV) (y : Sc) : Prop := x.1 = y.maj ∧ LaO W x.2 y.lanes
theorem LaO.rz {W W' : World} {v : SlV} {ls : List (List (Int × Int))} {u : TypeId} (h : LaO W v ls) (hf : Rz u W W') (h1 : 75 ≠ u) (h2 : 74 ≠ u) : LaO W' v ls := by
  obtain ⟨us, ho, ht⟩ := h
  exact ⟨us, ho.rz hf (by decide) (by decide) h1, ht.imp (fun x y h => h.rz hf (by decide) (by decide) h2)⟩
section
variable {B kb : Nat} {raw : Value} {im en : List Value} {q : Pt} {p g : Nat} {w0 : World} {s : D} {w w' : World}
end
end Go.Proofs.YtmfkggngjeolcaaGreatDoor
/- Bundle: what the reader takes, a plan (written by parts/gen_dcpln.py). Own work. -/
namespace Go.Proofs.YtmfkggngjeolcaaGreatDoor
open Go.RowKit Bn Dc
set_option linter.unusedVariables false
set_option linter.unusedSimpArgs false
section
variable {B kb : Nat} {raw : Value} {im en : List Value} {q : Pt} {p g : Nat} {w0 : World} {s : D} {w w' : World}
/-- the boxes that a closure keeps -/
def Bx2 (kb b1 b2 N : Nat) (w : World) : Prop := w.heap[b1]? = some (.cells ([.pointer (some ⟨kb, 0, none⟩)] : List Value).toArray 141 (0, 0)) ∧ w.heap[b2]? = some (.cells ([.int .i64 (N : Int)] : List Value).toArray 3 (0, 0))
theorem Bx2.fd {b1 b2 N : Nat} (h : Bx2 kb b1 b2 N w) (hf : Fd B w w') : Bx2 kb b1 b2 N w' := ⟨(hf.block' ⟨_, h.1⟩ (by decide) (by decide)).trans h.1, (hf.block' ⟨_, h.2⟩ (by decide) (by decide)).trans h.2⟩
theorem Bx2.low {b1 b2 N : Nat} (h : Bx2 kb b1 b2 N w) (hf : Below w.heap.size w w') : Bx2 kb b1 b2 N w' := h.fd (B := 0) (Fd.of_below hf)
theorem Bx2.c1 {b1 b2 N : Nat} (h : Bx2 kb b1 b2 N w) : w.cell? ⟨b1, 0, none⟩ = some (.pointer (some ⟨kb, 0, none⟩)) := box_cell h.1 0
theorem Bx2.c2 {b1 b2 N : Nat} (h : Bx2 kb b1 b2 N w) : w.cell? ⟨b2, 0, none⟩ = some (.int .i64 (N : Int)) := box_cell h.2 0
theorem Tagd.set {t : TypeId} {n m i : Nat} {u : Value} (h : Tagd w t n) : Tagd (w.setCell ⟨m, i, none⟩ u) t n := by
  obtain ⟨cur, hc⟩ := h
  by_cases e : n = m
  · subst e
    exact ⟨cur.setIfInBounds i u, by simp [World.setCell, Array.getElem?_modify, hc]⟩
  · exact ⟨cur, ((Keeps.setCell w m i u).block n (Array.getElem?_eq_some_iff.1 hc).1 e).trans hc⟩
theorem LaO.set {v : SlV} {ls : List (List (Int × Int))} {m i : Nat} {u : Value} (h : LaO w v ls) (ht : Tagd w 78 m) : LaO (w.setCell ⟨m, i, none⟩ u) v ls := h.rz (u := 78) (Keeps.mono (Keeps.setCell w m i u) (fun k _ e => by subst e; exact .inr (.inr ht))) (by decide) (by decide)
end
end Go.Proofs.YtmfkggngjeolcaaGreatDoor
/- Bundle: Read of a table's bytes (of Pages). Own work. -/
namespace Go.Proofs.YtmfkggngjeolcaaGreatDoor
open Go.RowKit Go.Shelf
set_option linter.unusedVariables false
/-- the table of bytes -/
def numT (zs : List Nat) : Nat → Nat := fun i => Pl.num 8 (zs.drop (8 * i))
/-- the first k of them read -/
def setN (f : Nat → Nat) (k : Nat) : Nat → Nat := fun i => if i < k then f i else 0
end Go.Proofs.YtmfkggngjeolcaaGreatDoor
