import Derived.Test.YtmfkggngjeolcaaGreatDoorPk16
import Derived.Laws.ResultCell
/- Bundle: a box of the call's own beside the reader. Own work. -/
namespace Go.Proofs.YtmfkggngjeolcaaGreatDoor
open Go.RowKit Bn Dc
set_option linter.unusedVariables false
set_option linter.unusedSimpArgs false
section
variable {B kb : Nat} {raw : Value} {im en : List Value} {q : Pt} {p g : Nat} {w0 : World} {s : D} {w w' : World}
/-- the reader, and a box that is new since w0 -/
structure Db (t : TypeId) (n : Nat) (B kb : Nat) (raw : Value) (im en : List Value) (q : Pt) (p g : Nat) (w0 : World) (s : D) (w : World) : Prop where
  dt : Dt B kb raw im en q p g w0 s w
  tg : Tagd w t n
  hn : w0.heap.size ≤ n
  h1 : t ≠ 144
  h2 : t ≠ 191
  h3 : t ≠ 5
theorem Db.set {t : TypeId} {n : Nat} (h : Db t n B kb raw im en q p g w0 s w) (i : Nat) (u : Value) : Db t n B kb raw im en q p g w0 s (w.setCell ⟨n, i, none⟩ u) := by
  have hk := Keeps.setCell w n i u
  have nb : n ≠ kb := fun e => h.h1 (tag_same h.tg ⟨_, e ▸ h.dt.blk⟩)
  have np : p ≠ n := fun e => h.h2 (tag_same h.tg ⟨_, e ▸ h.dt.rd.1⟩)
  have ng : g ≠ n := fun e => h.h3 (tag_same h.tg ⟨_, e ▸ h.dt.rd.2.1⟩)
  refine ⟨⟨(hk.block kb h.dt.lt (fun e => nb e.symm)).trans h.dt.blk, h.dt.him, h.dt.hen, h.dt.hpt, h.dt.hfi, h.dt.hlen, h.dt.rd.keeps hk np ng, h.dt.hB, ?_⟩, ?_, h.hn, h.h1, h.h2, h.h3⟩
  · have hf := h.dt.fr
    have hn := h.hn
    exact ⟨hk.os.trans hf.os, hk.tape.trans hf.tape, hk.output.trans hf.output, Nat.le_trans hf.size hk.size, fun j hj hq => (hk.block j (Nat.lt_of_lt_of_le hj hf.size) (fun e => by omega)).trans (hf.block j hj hq)⟩
  · obtain ⟨cur, hc⟩ := h.tg
    exact ⟨cur.setIfInBounds i u, by simp [World.setCell, Array.getElem?_modify, hc]⟩
theorem Dt.box (h : Dt B kb raw im en q p g w0 s w) {t : TypeId} {n : Nat} {cs : Array Value} (hb : w0.heap[n]? = some (.cells cs t (0, 0))) (h1 : t ≠ 144) (h2 : t ≠ 191) : w.heap[n]? = some (.cells cs t (0, 0)) := (h.fr.block' ⟨_, hb⟩ h1 h2).trans hb
theorem box_cell {n : Nat} {cs : List Value} {t : TypeId} (h : w.heap[n]? = some (.cells cs.toArray t (0, 0))) (i : Nat) : w.cell? ⟨n, i, none⟩ = cs[i]? := by rw [cell_of_row _ _ i _ _ _ h, List.getElem?_toArray]
theorem box_free {n : Nat} {cs : Array Value} {t : TypeId} (h : w.heap[n]? = some (.cells cs t (0, 0))) (i : Nat) : w.frozen? ⟨n, i, none⟩ = false := by simp [World.frozen?, h]
theorem box_set {n : Nat} {cs : List Value} {t : TypeId} (h : w.heap[n]? = some (.cells cs.toArray t (0, 0))) (i : Nat) (u : Value) : (w.setCell ⟨n, i, none⟩ u).heap[n]? = some (.cells (cs.set i u).toArray t (0, 0)) := by
  simp [World.setCell, Array.getElem?_modify, h]
end
end Go.Proofs.YtmfkggngjeolcaaGreatDoor
/- Bundle: what the reader takes, thing by thing (written by parts/gen_dcone.py). Own work. -/
namespace Go.Proofs.YtmfkggngjeolcaaGreatDoor
open Go.RowKit Bn Dc
set_option linter.unusedVariables false
set_option linter.unusedSimpArgs false
section
variable {B kb : Nat} {raw : Value} {im en : List Value} {q : Pt} {p g : Nat} {w0 : World} {s : D} {w w' : World}
end
end Go.Proofs.YtmfkggngjeolcaaGreatDoor
/- Bundle: a span is taken. Own work. -/
namespace Go.Proofs.YtmfkggngjeolcaaGreatDoor
open Go.RowKit Bn Dc
set_option linter.unusedVariables false
set_option linter.unusedSimpArgs false
section
variable {B kb : Nat} {raw : Value} {im en : List Value} {q : Pt} {p g : Nat} {w0 : World} {s : D} {w w' : World}
end
end Go.Proofs.YtmfkggngjeolcaaGreatDoor
