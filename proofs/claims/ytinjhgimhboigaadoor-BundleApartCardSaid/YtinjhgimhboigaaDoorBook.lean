/- The book's calls over bytes: Same, Roomy, Intact, Beyond: what each does where it must answer true (or, Beyond: either). -/
import Derived.Test.YtinjhgimhboigaaDoorCrc
import Derived.Deep.QuietTactic
import Derived.BigQuiet
import Derived.Laws.CopyOwn
namespace Go.Proofs.YtinjhgimhboigaaDoor
open Go.RowKit

theorem info_byte : (Tryd.prog.info? 5).map (fun i => (i.zero, i.size, i.bytes)) = some (some (.int .u8 0), 1, 1) := by kernel_rfl
theorem info_int : (Tryd.prog.info? 3).map (fun i => (i.zero, i.size, i.bytes)) = some (some (.int .i64 0), 1, 8) := by kernel_rfl

/-- a row of bytes in a block of its own -/
def bvs (L : List Nat) : List Value := L.map fun z => Value.int .u8 ((z : Nat) : Int)
def Row (w : World) (g : Nat) (L : List Nat) : Prop := w.heap[g]? = some (.cells (bvs L).toArray 5 (0, 0))
theorem bvs_length (L : List Nat) : (bvs L).length = L.length := by simp [bvs]
theorem bvs_get (L : List Nat) (i : Nat) (h : i < L.length) : (bvs L)[i]? = some (.int .u8 ((L.getD i 0 : Nat) : Int)) := by
  simp [bvs, List.getElem?_eq_getElem h]
theorem bvs_one (L : List Nat) : ∀ u ∈ bvs L, u.oneCell' = true := by
  intro u hu
  obtain ⟨_, _, rfl⟩ := List.mem_map.1 hu
  rfl
theorem Row.lt {w : World} {g : Nat} {L : List Nat} (h : Row w g L) : g < w.heap.size := (Array.getElem?_eq_some_iff.1 h).1
theorem Row.cell {w : World} {g : Nat} {L : List Nat} (h : Row w g L) (i : Nat) (hi : i < L.length) : w.cell? ⟨g, i, none⟩ = some (.int .u8 ((L.getD i 0 : Nat) : Int)) := by
  rw [cell_of_row w g i _ _ _ h]
  simpa using bvs_get L i hi
theorem Row.thawed {w : World} {g : Nat} {L : List Nat} (h : Row w g L) (i : Nat) : w.frozen? ⟨g, i, none⟩ = false := by
  simp [World.frozen?, show w.heap[g]? = _ from h]
theorem Row.kept {w w' : World} {g : Nat} {L : List Nat} (h : Row w g L) (e : w'.heap[g]? = w.heap[g]?) : Row w' g L := by
  rw [Row, e]; exact h
theorem Row.below {w w' : World} {g : Nat} {L : List Nat} (h : Row w g L) (hb : Below w.heap.size w w') : Row w' g L := h.kept (hb.block g h.lt)
theorem Row.sl {w : World} {g : Nat} {L : List Nat} (h : Row w g L) (hz : ∀ z ∈ L, z < 256) (o n cap : Nat) (hn : o + n ≤ L.length) (hc : n ≤ cap) (hm : cap ≤ maxLen) :
    Sl w (.slice (some ⟨g, o, none⟩) n cap) ((L.drop o).take n) := by
  have hl : ((L.drop o).take n).length = n := by simp; omega
  refine ⟨some ⟨g, o, none⟩, cap, by rw [hl], by omega, hm, fun z hz' => hz z (List.mem_of_mem_drop (List.mem_of_mem_take hz')), by simp, fun i hi => ⟨g, o, rfl, ?_⟩⟩
  rw [h.cell (o + i) (by omega)]
  congr 3
  simp only [List.getD_eq_getElem?_getD, List.getElem?_take, List.getElem?_drop]
  rw [if_pos (by omega)]
theorem Sl.below {w w' : World} {v : Value} {zs : List Nat} (h : Sl w v zs) (hb : Below w.heap.size w w') : Sl w' v zs := by
  obtain ⟨ao, cap, rfl, h1, h2, h3, h4, h5⟩ := h
  refine ⟨ao, cap, rfl, h1, h2, h3, h4, fun i hi => ?_⟩
  obtain ⟨b, o, e, hc⟩ := h5 i hi
  exact ⟨b, o, e, (hb.cell (p := ⟨b, o + i, none⟩) (World.block_lt_of_cell? w _ hc)).trans hc⟩
theorem Sl.small {w : World} {v : Value} {zs : List Nat} (h : Sl w v zs) : ∀ z ∈ zs, z < 256 := by
  obtain ⟨_, _, _, _, _, h3, _⟩ := h
  exact h3
theorem Tab.below {w w' : World} (h : Tab w) (hb : Below w.heap.size w w') : Tab w' := fun i hi =>
  (hb.cell (p := ⟨0, i, none⟩) (World.block_lt_of_cell? w _ (h i hi))).trans (h i hi)

set_option maxHeartbeats 1000000 in
theorem same_pos (xs : List Nat) (b o c b2 o2 c2 : Nat) (w : World) (h1 : xs.length ≤ c) (h2 : c ≤ maxLen)
    (hc : ∀ i, i < xs.length → w.cell? ⟨b, o + i, none⟩ = some (.int .u8 (xs.getD i 0 : Nat))) (hc2 : ∀ i, i < xs.length → w.cell? ⟨b2, o2 + i, none⟩ = some (.int .u8 (xs.getD i 0 : Nat))) :
    Calls Tryd.prog 6 #[.slice (some ⟨b, o, none⟩) xs.length c, .slice (some ⟨b2, o2, none⟩) xs.length c2] w fun e w' => e = .returned (.bool true) ∧ Below w.heap.size w w' := by
  unfold maxLen at h2
  have HC : Hid (∀ i, i < xs.length → w.cell? ⟨b, o + i, none⟩ = some (.int .u8 (xs.getD i 0 : Nat))) := hc
  have HC2 : Hid (∀ i, i < xs.length → w.cell? ⟨b2, o2 + i, none⟩ = some (.int .u8 (xs.getD i 0 : Nat))) := hc2
  clear hc hc2
  go_enter Tryd.func6, Tryd.ntmps6
  go_wp2
  go_loopw [5] (fun i wr => ∃ k : Nat, k ≤ xs.length ∧ i = .int .i64 k ∧ (∀ p, wr.cell? p = w.cell? p) ∧ Hid (Below w.heap.size w wr)) (fun i _ => xs.length - (intOf i).toNat)
  case atStart => exact ⟨0, Nat.zero_le _, rfl, fun _ => rfl, Below.refl _ _⟩
  case round =>
    obtain ⟨k, hk, rfl, hcw, HB⟩ := hrel
    by_cases hlt : k < xs.length
    · have q1 := (hcw _).trans (HC.out k hlt)
      have q2 := (hcw _).trans (HC2.out k hlt)
      generalize xs.getD k 0 = z at *
      have HCW : Hid (∀ p, wr.cell? p = w.cell? p) := hcw
      clear hcw
      go_wp2
      go_region
      all_goals
        go_wp2
        go_roundw
        case rel => exact ⟨k + 1, by omega, by go_num, HCW.out, by repeat (first | exact HB.out | refine Below.drew ?_)⟩
        case measure => simp [intOf]; omega
    · go_wp2
      go_ret
      exact ⟨rfl, HB.out⟩
set_option maxHeartbeats 400000 in
theorem same_none (ao ao2 : Option Addr) (c c2 : Nat) (w : World) :
    Calls Tryd.prog 6 #[.slice ao 0 c, .slice ao2 0 c2] w fun e w' => e = .returned (.bool true) ∧ Below w.heap.size w w' := by
  go_enter Tryd.func6, Tryd.ntmps6
  go_wp2
  go_loop [5] (fun i => i = .int .i64 0) (fun _ => 0)
  case atStart => rfl
  case round =>
    subst hrel
    go_wp2
    go_ret
    exact ⟨rfl, Below.refl _ _⟩
theorem same_any {u v : Value} {xs : List Nat} {w : World} (hu : Sl w u xs) (hv : Sl w v xs) :
    Calls Tryd.prog 6 #[u, v] w fun e w' => e = .returned (.bool true) ∧ Below w.heap.size w w' := by
  by_cases hp : 0 < xs.length
  · obtain ⟨b, o, c, rfl, h1, h2, h3, h4⟩ := hu.pos hp
    obtain ⟨b2, o2, c2, rfl, _, _, _, k4⟩ := hv.pos hp
    exact same_pos xs b o c b2 o2 c2 w h1 h2 h4 k4
  · obtain rfl : xs = [] := List.eq_nil_of_length_eq_zero (by omega)
    obtain ⟨ao, cap, rfl, _⟩ := hu
    obtain ⟨ao2, cap2, rfl, _⟩ := hv
    exact same_none ao ao2 cap cap2 w
theorem splice_front (n : Nat) (p : List Nat) : splice (bvs (List.replicate n 0)) 0 (bvs p) = bvs (p ++ List.replicate (n - p.length) 0) := by
  simp [splice, bvs]
/-- a list with 80 more places, of which k bear the mark -/
def fillTo (p : List Nat) (m k : Nat) : List Nat := p ++ (List.replicate k m ++ List.replicate (80 - k) 0)
/-- what Roomy makes -/
def roomed (p : List Nat) (m : Nat) : List Nat := p ++ List.replicate 80 m
theorem fillTo_length (p : List Nat) (m k : Nat) (hk : k ≤ 80) : (fillTo p m k).length = p.length + 80 := by simp [fillTo]; omega
theorem roomed_length (p : List Nat) (m : Nat) : (roomed p m).length = p.length + 80 := by simp [roomed]
theorem fillTo_end (p : List Nat) (m : Nat) : fillTo p m 80 = roomed p m := by simp [fillTo, roomed]
theorem fillTo_set (p : List Nat) (m k : Nat) (hk : k < 80) : (fillTo p m k).set (p.length + k) m = fillTo p m (k + 1) := by
  unfold fillTo
  rw [show 80 - k = (80 - (k + 1)) + 1 from by omega, List.replicate_succ, List.replicate_succ']
  simp
theorem roomed_small {p : List Nat} {m : Nat} (hp : ∀ z ∈ p, z < 256) (hm : m < 256) : ∀ z ∈ roomed p m, z < 256 := by
  intro z hz
  rcases List.mem_append.1 hz with h | h
  · exact hp z h
  · rw [List.eq_of_mem_replicate h]; exact hm
theorem roomed_take (p : List Nat) (m : Nat) : (roomed p m).take p.length = p := by simp [roomed]
theorem roomed_get (p : List Nat) (m k : Nat) (h : k < 80) : (roomed p m).getD (p.length + k) 0 = m := by
  rw [roomed, List.getD_eq_getElem?_getD, List.getElem?_append_right (by omega), Nat.add_sub_cancel_left, List.getElem?_replicate, if_pos h]; rfl
theorem Row.set {w : World} {g : Nat} {L : List Nat} (h : Row w g L) (i : Nat) (u : Nat) : Row (w.setCell ⟨g, i, none⟩ (.int .u8 ((u : Nat) : Int))) g (L.set i u) := by
  have e : bvs (L.set i u) = (bvs L).set i (.int .u8 ((u : Nat) : Int)) := by simp [bvs, List.map_set]
  rw [Row, e]
  simp only [World.setCell, Array.getElem?_modify]
  rw [if_pos trivial, show w.heap[g]? = _ from h]
  simp
theorem row_made {w : World} {base g n : Nat} (h : w.ownsRow base 5 1 (.slice (some ⟨g, 0, none⟩) n n) n (madeCells #[Value.int .u8 0] n).toList) : Row w g (List.replicate n 0) := by
  rcases h.2 with ⟨hc, _⟩ | ⟨g', cap, cur, hv, _, hg, _, _, hs, ht⟩
  · cases hc
  · cases hv
    rw [Row, hg]
    have e : cur.toList = bvs (List.replicate n 0) := by
      rw [List.take_of_length_le (by simp [hs])] at ht
      rw [ht, toList_madeCells_one]
      simp [bvs]
    rw [← e]
end Go.Proofs.YtinjhgimhboigaaDoor
