import Derived.Test.YtmfkggngjeolcaaGreatDoorPk00
import Derived.Deep.QuietTactic
import Derived.BigQuiet
import Derived.Laws.CopyOwn
import Derived.Maps.AppendAt
/- The book's calls over bytes: Same, Roomy, Intact, Beyond: what each does where it must answer true (or, Beyond: either). -/
namespace Go.Proofs.YtmfkggngjeolcaaGreatDoor
open Go.RowKit

theorem info_byte : (Tryz.prog.info? 5).map (fun i => (i.zero, i.size, i.bytes)) = some (some (.int .u8 0), 1, 1) := by kernel_rfl
/-- a row of bytes in a block of its own -/
def bvs (L : List Nat) : List Value := L.map fun z => Value.int .u8 ((z : Nat) : Int)
def Row (w : World) (g : Nat) (L : List Nat) : Prop := w.heap[g]? = some (.cells (bvs L).toArray 5 (0, 0))
theorem bvs_length (L : List Nat) : (bvs L).length = L.length := by simp [bvs]
theorem bvs_get (L : List Nat) (i : Nat) (h : i < L.length) : (bvs L)[i]? = some (.int .u8 ((L.getD i 0 : Nat) : Int)) := by
  simp [bvs, List.getElem?_eq_getElem h]
theorem bvs_one (L : List Nat) : ∀ u ∈ bvs L, u.oneCell' = true := by
  intro u hu
  obtain ⟨_, _, rfl⟩ := List.mem_map.1 hu
  rfl
theorem Row.lt {w : World} {g : Nat} {L : List Nat} (h : Row w g L) : g < w.heap.size := (Array.getElem?_eq_some_iff.1 h).1
theorem Row.cell {w : World} {g : Nat} {L : List Nat} (h : Row w g L) (i : Nat) (hi : i < L.length) : w.cell? ⟨g, i, none⟩ = some (.int .u8 ((L.getD i 0 : Nat) : Int)) := by
  rw [cell_of_row w g i _ _ _ h]
  simpa using bvs_get L i hi
theorem Row.thawed {w : World} {g : Nat} {L : List Nat} (h : Row w g L) (i : Nat) : w.frozen? ⟨g, i, none⟩ = false := by
  simp [World.frozen?, show w.heap[g]? = _ from h]
theorem Row.kept {w w' : World} {g : Nat} {L : List Nat} (h : Row w g L) (e : w'.heap[g]? = w.heap[g]?) : Row w' g L := by
  rw [Row, e]; exact h
theorem Row.below {w w' : World} {g : Nat} {L : List Nat} (h : Row w g L) (hb : Below w.heap.size w w') : Row w' g L := h.kept (hb.block g h.lt)
theorem Row.sl {w : World} {g : Nat} {L : List Nat} (h : Row w g L) (hz : ∀ z ∈ L, z < 256) (o n cap : Nat) (hn : o + n ≤ L.length) (hc : n ≤ cap) (hm : cap ≤ maxLen) :
    Sl w (.slice (some ⟨g, o, none⟩) n cap) ((L.drop o).take n) := by
  have hl : ((L.drop o).take n).length = n := by simp; omega
  refine ⟨some ⟨g, o, none⟩, cap, by rw [hl], by omega, hm, fun z hz' => hz z (List.mem_of_mem_drop (List.mem_of_mem_take hz')), by simp, fun i hi => ⟨g, o, rfl, ?_⟩⟩
  rw [h.cell (o + i) (by omega)]
  congr 3
  simp only [List.getD_eq_getElem?_getD, List.getElem?_take, List.getElem?_drop]
  rw [if_pos (by omega)]
theorem Sl.below {w w' : World} {v : Value} {zs : List Nat} (h : Sl w v zs) (hb : Below w.heap.size w w') : Sl w' v zs := by
  obtain ⟨ao, cap, rfl, h1, h2, h3, h4, h5⟩ := h
  refine ⟨ao, cap, rfl, h1, h2, h3, h4, fun i hi => ?_⟩
  obtain ⟨b, o, e, hc⟩ := h5 i hi
  exact ⟨b, o, e, (hb.cell (p := ⟨b, o + i, none⟩) (World.block_lt_of_cell? w _ hc)).trans hc⟩
theorem Sl.small {w : World} {v : Value} {zs : List Nat} (h : Sl w v zs) : ∀ z ∈ zs, z < 256 := by
  obtain ⟨_, _, _, _, _, h3, _⟩ := h
  exact h3
theorem Tab.below {w w' : World} (h : Tab w) (hb : Below w.heap.size w w') : Tab w' := fun i hi =>
  (hb.cell (p := ⟨0, i, none⟩) (World.block_lt_of_cell? w _ (h i hi))).trans (h i hi)

set_option maxHeartbeats 1000000 in
theorem same_pos (xs : List Nat) (b o c b2 o2 c2 : Nat) (w : World) (h1 : xs.length ≤ c) (h2 : c ≤ maxLen)
    (hc : ∀ i, i < xs.length → w.cell? ⟨b, o + i, none⟩ = some (.int .u8 (xs.getD i 0 : Nat))) (hc2 : ∀ i, i < xs.length → w.cell? ⟨b2, o2 + i, none⟩ = some (.int .u8 (xs.getD i 0 : Nat))) :
    Calls Tryz.prog 19 #[.slice (some ⟨b, o, none⟩) xs.length c, .slice (some ⟨b2, o2, none⟩) xs.length c2] w fun e w' => e = .returned (.bool true) ∧ Below w.heap.size w w' := by
  unfold maxLen at h2
  have HC : Hid (∀ i, i < xs.length → w.cell? ⟨b, o + i, none⟩ = some (.int .u8 (xs.getD i 0 : Nat))) := hc
  have HC2 : Hid (∀ i, i < xs.length → w.cell? ⟨b2, o2 + i, none⟩ = some (.int .u8 (xs.getD i 0 : Nat))) := hc2
  clear hc hc2
  go_enter Tryz.func19, Tryz.ntmps19
  go_wp2
  go_loopw [5] (fun i wr => ∃ k : Nat, k ≤ xs.length ∧ i = .int .i64 k ∧ (∀ p, wr.cell? p = w.cell? p) ∧ Hid (Below w.heap.size w wr)) (fun i _ => xs.length - (intOf i).toNat)
  case atStart => exact ⟨0, Nat.zero_le _, rfl, fun _ => rfl, Below.refl _ _⟩
  case round =>
    obtain ⟨k, hk, rfl, hcw, HB⟩ := hrel
    by_cases hlt : k < xs.length
    · have q1 := (hcw _).trans (HC.out k hlt)
      have q2 := (hcw _).trans (HC2.out k hlt)
      generalize xs.getD k 0 = z at *
      have HCW : Hid (∀ p, wr.cell? p = w.cell? p) := hcw
      clear hcw
      go_wp2
      go_region
      all_goals
        go_wp2
        go_roundw
        case rel => exact ⟨k + 1, by omega, by go_num, HCW.out, by repeat (first | exact HB.out | refine Below.drew ?_)⟩
        case measure => simp [intOf]; omega
    · go_wp2
      go_ret
      exact ⟨rfl, HB.out⟩
set_option maxHeartbeats 400000 in
theorem same_none (ao ao2 : Option Addr) (c c2 : Nat) (w : World) :
    Calls Tryz.prog 19 #[.slice ao 0 c, .slice ao2 0 c2] w fun e w' => e = .returned (.bool true) ∧ Below w.heap.size w w' := by
  go_enter Tryz.func19, Tryz.ntmps19
  go_wp2
  go_loop [5] (fun i => i = .int .i64 0) (fun _ => 0)
  case atStart => rfl
  case round =>
    subst hrel
    go_wp2
    go_ret
    exact ⟨rfl, Below.refl _ _⟩
theorem same_any {u v : Value} {xs : List Nat} {w : World} (hu : Sl w u xs) (hv : Sl w v xs) :
    Calls Tryz.prog 19 #[u, v] w fun e w' => e = .returned (.bool true) ∧ Below w.heap.size w w' := by
  by_cases hp : 0 < xs.length
  · obtain ⟨b, o, c, rfl, h1, h2, h3, h4⟩ := hu.pos hp
    obtain ⟨b2, o2, c2, rfl, _, _, _, k4⟩ := hv.pos hp
    exact same_pos xs b o c b2 o2 c2 w h1 h2 h4 k4
  · obtain rfl : xs = [] := List.eq_nil_of_length_eq_zero (by omega)
    obtain ⟨ao, cap, rfl, _⟩ := hu
    obtain ⟨ao2, cap2, rfl, _⟩ := hv
    exact same_none ao ao2 cap cap2 w
theorem splice_front (n : Nat) (p : List Nat) : splice (bvs (List.replicate n 0)) 0 (bvs p) = bvs (p ++ List.replicate (n - p.length) 0) := by
  simp [splice, bvs]
/-- a list with 80 more places, of which k bear the mark -/
def fillTo (p : List Nat) (m k : Nat) : List Nat := p ++ (List.replicate k m ++ List.replicate (80 - k) 0)
/-- what Roomy makes -/
def roomed (p : List Nat) (m : Nat) : List Nat := p ++ List.replicate 80 m
theorem Row.set {w : World} {g : Nat} {L : List Nat} (h : Row w g L) (i : Nat) (u : Nat) : Row (w.setCell ⟨g, i, none⟩ (.int .u8 ((u : Nat) : Int))) g (L.set i u) := by
  have e : bvs (L.set i u) = (bvs L).set i (.int .u8 ((u : Nat) : Int)) := by simp [bvs, List.map_set]
  rw [Row, e]
  simp only [World.setCell, Array.getElem?_modify]
  rw [if_pos trivial, show w.heap[g]? = _ from h]
  simp
theorem row_made {w : World} {base g n : Nat} (h : w.ownsRow base 5 1 (.slice (some ⟨g, 0, none⟩) n n) n (madeCells #[Value.int .u8 0] n).toList) : Row w g (List.replicate n 0) := by
  rcases h.2 with ⟨hc, _⟩ | ⟨g', cap, cur, hv, _, hg, _, _, hs, ht⟩
  · cases hc
  · cases hv
    rw [Row, hg]
    have e : cur.toList = bvs (List.replicate n 0) := by
      rw [List.take_of_length_le (by simp [hs])] at ht
      rw [ht, toList_madeCells_one]
      simp [bvs]
    rw [← e]
end Go.Proofs.YtmfkggngjeolcaaGreatDoor
/- Intact (where it must be true) and Beyond, of two numbers. -/
namespace Go.Proofs.YtmfkggngjeolcaaGreatDoor
open Go.RowKit
end Go.Proofs.YtmfkggngjeolcaaGreatDoor
/- append(dst, src...) onto a row of bytes that the call owns, from whatever slice of bytes. -/
namespace Go.Proofs.YtmfkggngjeolcaaGreatDoor
open Go.RowKit
theorem bvs_append (xs ys : List Nat) : bvs (xs ++ ys) = bvs xs ++ bvs ys := by simp [bvs]
/-- a row of bytes that is owned from base on: its value, its bytes -/
def Own (w : World) (base : Nat) (v : Value) (xs : List Nat) : Prop := w.ownsRow base 5 1 v xs.length (bvs xs)
theorem run_append_sl {w : World} {base : Nat} {v x : Value} {xs ys : List Nat} (ty : TypeId) (hown : Own w base v xs) (hx : Sl w x ys) (hb : xs.length + ys.length ≤ 1099511627776) (hbase : base ≤ w.heap.size) :
    ∃ v' w', (Builtin.append_ #[43, 43] ty #[v, x]).run Tryz.prog w = .ok v' w' ∧ Own w' base v' (xs ++ ys) ∧ w.grownBy w' v.ownBlock ∧ (v'.ownBlock = v.ownBlock ∨ v'.ownBlock = some w.heap.size) := by
  obtain ⟨i, hi, hz0, hz1, hz2⟩ := info_parts info_byte
  have hb2 : xs.length + ys.length ≤ maxLen := by unfold maxLen; omega
  have key : ∀ ad c, x = .slice (some ad) ys.length c → (∀ j u, (bvs ys)[j]? = some u → w.cell? (ad.add j) = some u) → ∃ v' w', (Builtin.append_ #[43, 43] ty #[v, x]).run Tryz.prog w = .ok v' w' ∧ Own w' base v' (xs ++ ys) ∧ w.grownBy w' v.ownBlock ∧ (v'.ownBlock = v.ownBlock ∨ v'.ownBlock = some w.heap.size) := by
    intro ad c e hc
    subst e
    obtain ⟨v', w', h1, h2, h3, _, h5⟩ := run_append_own_at (P := Tryz.prog) w base 43 ty 5 i (.int .u8 0) 1 1 Tryz.underlying43 hi hz0 hz1 hz2 rfl (by omega) v xs.length (bvs xs) hown ad ys.length c (bvs ys) (by rw [bvs_length]; omega) hc (bvs_one ys) hb2 (by omega) hbase
    refine ⟨v', w', h1, ?_, h3, h5⟩
    unfold Own
    rw [List.length_append, bvs_append]
    exact h2
  by_cases hp : 0 < ys.length
  · obtain ⟨b, o, cap, rfl, h1, h2, h3, h4⟩ := hx.pos hp
    refine key _ cap rfl fun j u hj => ?_
    have hjl : j < ys.length := by simpa [bvs_length] using (List.getElem?_eq_some_iff.1 hj).1
    rw [bvs_get ys j hjl] at hj
    rw [Addr.add_lit, h4 j hjl, hj]
  · obtain rfl : ys = [] := List.eq_nil_of_length_eq_zero (by omega)
    obtain ⟨ao, cap, rfl, h1, h2, h3, h4, h5⟩ := hx
    cases ao with
    | some ad => exact key ad cap rfl fun j u hj => by simp [bvs] at hj
    | none =>
      obtain rfl := h4 rfl
      refine ⟨v, w, run_append_owned_none (P := Tryz.prog) w base 43 ty 5 i 1 Tryz.underlying43 hi v xs.length (bvs xs) hown, ?_, World.grownBy.refl _ _, .inl rfl⟩
      rw [List.append_nil]
      exact hown
theorem wpList_append_sl {w : World} {ops : Array Oper} {rest : List Oper} {o : Oper} {a : Act} {Q : Exit → Act → World → Prop} (s x : Operand) (hw : Region.wanted o (yielded ops a.tmps) = true)
    (ho : o.op = .call { callee := .builtin .append, args := #[s, x], argTypes := #[43, 43] })
    {base : Nat} {v u : Value} {xs ys : List Nat} (hs : a.eval s = v) (hown : Own w base v xs) (hx : a.eval x = u) (hsl : Sl w u ys) (hb : xs.length + ys.length ≤ 1099511627776) (hbase : base ≤ w.heap.size)
    (h : ∀ v' w', Own w' base v' (xs ++ ys) → w.grownBy w' v.ownBlock → (v'.ownBlock = v.ownBlock ∨ v'.ownBlock = some w.heap.size) → wpList Tryz.prog ops Q rest (a.put o.dst v') w') : wpList Tryz.prog ops Q (o :: rest) a w := by
  refine wpList_step fun K hK => ?_
  rw [if_pos hw]
  obtain ⟨v', w', hr, h2, h3, h4⟩ := run_append_sl o.type hown hsl hb hbase
  unfold Oper.wp execOp
  simp only [ho, resolve, invoke, builtin, Sem.run_bind, Sem.run_pure, Result.andThen_ok, List.map_toArray, List.map_cons, List.map_nil, hs, hx, hr]
  exact hK _ _ (h v' w' h2 h3 h4)
theorem own_nil (w : World) (base : Nat) : Own w base (.slice none 0 0) [] := World.ownsRow_nil w base 5 1
/-- what is owned reads as it is -/
theorem Own.sl {w : World} {base : Nat} {v : Value} {xs : List Nat} (h : Own w base v xs) (hz : ∀ z ∈ xs, z < 256) : Sl w v xs := by
  rcases h.2 with ⟨rfl, h0⟩ | ⟨g, cap, cur, rfl, hb, hg, hnc, hcm, hcs, ht⟩
  · obtain rfl : xs = [] := List.eq_nil_of_length_eq_zero h0
    exact ⟨none, 0, rfl, by simp, by simp [maxLen], by simp, fun _ => rfl, fun i hi => by simp at hi⟩
  · refine ⟨some ⟨g, 0, none⟩, cap, rfl, hnc, hcm, hz, by simp, fun i hi => ⟨g, 0, rfl, ?_⟩⟩
    have := h.cells (g := g) rfl i _ (bvs_get xs i hi)
    rwa [Addr.add_lit] at this
theorem Own.kept {w w' : World} {base : Nat} {v : Value} {xs : List Nat} {row : Option Nat} (h : Own w base v xs) (hg : w.grownBy w' row) (hne : v.ownBlock = none ∨ v.ownBlock ≠ row) : Own w' base v xs := World.ownsRow.kept h hg hne
/-- its block, where it has one, is base or above and lies in the heap -/
theorem Own.lt {w : World} {base : Nat} {v : Value} {xs : List Nat} (h : Own w base v xs) : ∀ k, v.ownBlock = some k → base ≤ k ∧ k < w.heap.size := World.ownsRow.lt h
theorem Own.below {w w' : World} {base : Nat} {v : Value} {xs : List Nat} (h : Own w base v xs) (hb : Below w.heap.size w w') : Own w' base v xs :=
  h.kept (row := none) ⟨hb.os, hb.tape, hb.output, hb.size, fun k hk _ => hb.block k hk⟩ (by cases hv : v.ownBlock <;> simp)
end Go.Proofs.YtmfkggngjeolcaaGreatDoor
