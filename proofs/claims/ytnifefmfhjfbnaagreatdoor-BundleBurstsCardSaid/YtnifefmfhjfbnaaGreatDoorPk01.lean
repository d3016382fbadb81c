import Derived.Test.YtnifefmfhjfbnaaGreatDoorCards
import Derived.Test.YtnifefmfhjfbnaaGreatDoorTie
import Derived.Test.YtnifefmfhjfbnaaGreatDoorPk00
import Derived.WalkKit
import Derived.ProofKit
import Derived.OpenShut
import Derived.ShutString
import Derived.ChangeOld
import Derived.Below
import Derived.Deep.DeepHandedRow
import Derived.Lib.LaidTab
import Derived.Deep.QuietTactic
import Derived.BigQuiet
import Derived.Laws.CopyOwn
/- What the row's list gives; a world for the witness. (Laid without its slices.) -/
namespace Go.Proofs.YtnifefmfhjfbnaaGreatDoor
open Go.ChangeShapes Go.WideShapes Go.ChangeAt Go.RowKit
theorem ownKnobs : ownKnob Tryz.prog.godebug = none := by kernel_rfl
theorem laidOut : laidOutB Tryz.prog = true := by kernel_rfl
theorem gTab : Tryz.prog.globalNamed "bulkhead/word.fourBits" = some 0 := by kernel_rfl
theorem gTabType : (Tryz.prog.globals[0]?).map (·.type) = some 150 := by kernel_rfl
theorem cellsTab : Tryz.prog.cellsOf 150 = 16 := by kernel_rfl
theorem cellsWord : Tryz.prog.cellsOf 51 = 1 := by kernel_rfl
theorem tab_of {W : World} (h : laidMetH Tryz.prog [("bulkhead/word.fourBits", Rows.laid_bulkhead_word_fourBits)] W) : Tab W := by
 have t : Lib.TabIs Tryz.prog W "bulkhead/word.fourBits" .u32 (Pl.tab.map fun (n : Nat) => (n : Int)) :=
  Lib.tabIs_of_head (rest := []) gTab gTabType Tryz.underlying150 Tryz.underlying51 cellsWord cellsTab h
 intro i hi
 have e : (Pl.tab.map fun (n : Nat) => (n : Int)).getD i 0 = ((Pl.tab.getD i 0 : Nat) : Int) := by
  rw [List.getD_eq_getElem?_getD, List.getElem?_map, List.getD_eq_getElem?_getD, List.getElem?_eq_getElem (by simpa [Pl.tab] using hi)]
  rfl
 have c := t.cell gTab i (by simpa [Pl.tab] using hi)
 first
 | exact c.trans (by rw [← e]; rfl)
 | (rw [← e]; simpa using c)
/-- a world that holds the table as its initialiser lays it -/
noncomputable def laidWorld (os : Os) : World :=
 { World.holding Tryz.prog os ⟨#[], #[], []⟩ with heap := (World.holding Tryz.prog os ⟨#[], #[], []⟩).heap.modify 0 fun
   | .cells _ t frozen => .cells #[.int .u32 0, .int .u32 274646895, .int .u32 549293790, .int .u32 820201905, .int .u32 1098587580, .int .u32 1361435347, .int .u32 1640403810, .int .u32 1905808397, .int .u32 2197175160, .int .u32 2460548119, .int .u32 2722870694, .int .u32 2987750089, .int .u32 3280807620, .int .u32 3553878443, .int .u32 3811616794, .int .u32 4084100981] t frozen
   | o => o }
end Go.Proofs.YtnifefmfhjfbnaaGreatDoor
/- The book's calls over bytes: Same, Roomy, Intact, Beyond: what each does where it must answer true (or, Beyond: either). -/
namespace Go.Proofs.YtnifefmfhjfbnaaGreatDoor
open Go.RowKit

theorem info_byte : (Tryz.prog.info? 5).map (fun i => (i.zero, i.size, i.bytes)) = some (some (.int .u8 0), 1, 1) := by kernel_rfl
/-- a row of bytes in a block of its own -/
def bvs (L : List Nat) : List Value := L.map fun z => Value.int .u8 ((z : Nat) : Int)
def Row (w : World) (g : Nat) (L : List Nat) : Prop := w.heap[g]? = some (.cells (bvs L).toArray 5 (0, 0))
theorem bvs_length (L : List Nat) : (bvs L).length = L.length := by simp [bvs]
theorem bvs_get (L : List Nat) (i : Nat) (h : i < L.length) : (bvs L)[i]? = some (.int .u8 ((L.getD i 0 : Nat) : Int)) := by
 simp [bvs, List.getElem?_eq_getElem h]
theorem bvs_one (L : List Nat) : ∀ u ∈ bvs L, u.oneCell' = true := by
 intro u hu
 obtain ⟨_, _, rfl⟩ := List.mem_map.1 hu
 rfl
theorem Row.lt {w : World} {g : Nat} {L : List Nat} (h : Row w g L) : g < w.heap.size := (Array.getElem?_eq_some_iff.1 h).1
theorem Row.cell {w : World} {g : Nat} {L : List Nat} (h : Row w g L) (i : Nat) (hi : i < L.length) : w.cell? ⟨g, i, none⟩ = some (.int .u8 ((L.getD i 0 : Nat) : Int)) := by
 rw [cell_of_row w g i _ _ _ h]
 simpa using bvs_get L i hi
theorem Row.thawed {w : World} {g : Nat} {L : List Nat} (h : Row w g L) (i : Nat) : w.frozen? ⟨g, i, none⟩ = false := by
 simp [World.frozen?, show w.heap[g]? = _ from h]
theorem Row.kept {w w' : World} {g : Nat} {L : List Nat} (h : Row w g L) (e : w'.heap[g]? = w.heap[g]?) : Row w' g L := by
 rw [Row, e]; exact h
theorem Row.below {w w' : World} {g : Nat} {L : List Nat} (h : Row w g L) (hb : Below w.heap.size w w') : Row w' g L := h.kept (hb.block g h.lt)
theorem Row.sl {w : World} {g : Nat} {L : List Nat} (h : Row w g L) (hz : ∀ z ∈ L, z < 256) (o n cap : Nat) (hn : o + n ≤ L.length) (hc : n ≤ cap) (hm : cap ≤ maxLen) :
  Sl w (.slice (some ⟨g, o, none⟩) n cap) ((L.drop o).take n) := by
 have hl : ((L.drop o).take n).length = n := by simp; omega
 refine ⟨some ⟨g, o, none⟩, cap, by rw [hl], by omega, hm, fun z hz' => hz z (List.mem_of_mem_drop (List.mem_of_mem_take hz')), by simp, fun i hi => ⟨g, o, rfl, ?_⟩⟩
 rw [h.cell (o + i) (by omega)]
 congr 3
 simp only [List.getD_eq_getElem?_getD, List.getElem?_take, List.getElem?_drop]
 rw [if_pos (by omega)]
theorem Sl.below {w w' : World} {v : Value} {zs : List Nat} (h : Sl w v zs) (hb : Below w.heap.size w w') : Sl w' v zs := by
 obtain ⟨ao, cap, rfl, h1, h2, h3, h4, h5⟩ := h
 refine ⟨ao, cap, rfl, h1, h2, h3, h4, fun i hi => ?_⟩
 obtain ⟨b, o, e, hc⟩ := h5 i hi
 exact ⟨b, o, e, (hb.cell (p := ⟨b, o + i, none⟩) (World.block_lt_of_cell? w _ hc)).trans hc⟩
theorem Sl.small {w : World} {v : Value} {zs : List Nat} (h : Sl w v zs) : ∀ z ∈ zs, z < 256 := by
 obtain ⟨_, _, _, _, _, h3, _⟩ := h
 exact h3
theorem Tab.below {w w' : World} (h : Tab w) (hb : Below w.heap.size w w') : Tab w' := fun i hi =>
 (hb.cell (p := ⟨0, i, none⟩) (World.block_lt_of_cell? w _ (h i hi))).trans (h i hi)

theorem splice_front (n : Nat) (p : List Nat) : splice (bvs (List.replicate n 0)) 0 (bvs p) = bvs (p ++ List.replicate (n - p.length) 0) := by
 simp [splice, bvs]
/-- a list with 80 more places, of which k bear the mark -/
def fillTo (p : List Nat) (m k : Nat) : List Nat := p ++ (List.replicate k m ++ List.replicate (80 - k) 0)
/-- what Roomy makes -/
def roomed (p : List Nat) (m : Nat) : List Nat := p ++ List.replicate 80 m
theorem Row.set {w : World} {g : Nat} {L : List Nat} (h : Row w g L) (i : Nat) (u : Nat) : Row (w.setCell ⟨g, i, none⟩ (.int .u8 ((u : Nat) : Int))) g (L.set i u) := by
 have e : bvs (L.set i u) = (bvs L).set i (.int .u8 ((u : Nat) : Int)) := by simp [bvs, List.map_set]
 rw [Row, e]
 simp only [World.setCell, Array.getElem?_modify]
 rw [if_pos trivial, show w.heap[g]? = _ from h]
 simp
theorem row_made {w : World} {base g n : Nat} (h : w.ownsRow base 5 1 (.slice (some ⟨g, 0, none⟩) n n) n (madeCells #[Value.int .u8 0] n).toList) : Row w g (List.replicate n 0) := by
 rcases h.2 with ⟨hc, _⟩ | ⟨g', cap, cur, hv, _, hg, _, _, hs, ht⟩
 ·cases hc
 ·cases hv
  rw [Row, hg]
  have e : cur.toList = bvs (List.replicate n 0) := by
   rw [List.take_of_length_le (by simp [hs])] at ht
   rw [ht, toList_madeCells_one]
   simp [bvs]
  rw [← e]
end Go.Proofs.YtnifefmfhjfbnaaGreatDoor
