import Derived.Test.YtmfkggngjeolcaaGreatDoorPk00
import Derived.Deep.QuietTactic
import Derived.BigQuiet
import Derived.Laws.CopyOwn
import Derived.Maps.AppendAt
set_option maxHeartbeats 2000000
set_option maxRecDepth 100000
namespace Go.Proofs.YtmfkggngjeolcaaGreatDoor
open Go.RowKit

theorem info_byte : (Tryz.prog.info? 5).map (fun i => (i.zero, i.size, i.bytes)) = some (some (.int .u8 0), 1, 1) := by kernel_rfl
def bvs (L : List Nat) : List Value := L.map fun z => Value.int .u8 ((z : Nat) : Int)
def Row (w : World) (g : Nat) (L : List Nat) : Prop := w.heap[g]? = some (.cells (bvs L).toArray 5 (0, 0))
theorem bvs_length (L : List Nat) : (bvs L).length = L.length := by simp [bvs]
theorem bvs_get (L : List Nat) (i : Nat) (h : i < L.length) : (bvs L)[i]? = some (.int .u8 ((L.getD i 0 : Nat) : Int)) := by
 simp [bvs, List.getElem?_eq_getElem h]
theorem bvs_one (L : List Nat) : ∀ u ∈ bvs L, u.oneCell' = true := by
 intro u hu;obtain ⟨_, _, rfl⟩ := List.mem_map.1 hu
 rfl
theorem Row.lt {w : World} {g : Nat} {L : List Nat} (h : Row w g L) : g < w.heap.size := (Array.getElem?_eq_some_iff.1 h).1
theorem Row.cell {w : World} {g : Nat} {L : List Nat} (h : Row w g L) (i : Nat) (hi : i < L.length) : w.cell? ⟨g, i, none⟩ = some (.int .u8 ((L.getD i 0 : Nat) : Int)) := by
 rw [cell_of_row w g i _ _ _ h]
 simpa using bvs_get L i hi
theorem Row.thawed {w : World} {g : Nat} {L : List Nat} (h : Row w g L) (i : Nat) : w.frozen? ⟨g, i, none⟩ = false := by
 simp [World.frozen?, show w.heap[g]? = _ from h]
theorem Row.kept {w w' : World} {g : Nat} {L : List Nat} (h : Row w g L) (e : w'.heap[g]? = w.heap[g]?) : Row w' g L := by
 rw [Row, e]; exact h
theorem Row.below {w w' : World} {g : Nat} {L : List Nat} (h : Row w g L) (hb : Below w.heap.size w w') : Row w' g L := h.kept (hb.block g h.lt)
theorem Row.sl {w : World} {g : Nat} {L : List Nat} (h : Row w g L) (hz : ∀ z ∈ L, z < 256) (o n cap : Nat) (hn : o + n ≤ L.length) (hc : n ≤ cap) (hm : cap ≤ maxLen) :
  Sl w (.slice (some ⟨g, o, none⟩) n cap) ((L.drop o).take n) := by
 have hl : ((L.drop o).take n).length = n := by simp; omega
 refine ⟨some ⟨g, o, none⟩, cap, by rw [hl], by omega, hm, fun z hz' => hz z (List.mem_of_mem_drop (List.mem_of_mem_take hz')), by simp, fun i hi => ⟨g, o, rfl, ?_⟩⟩;rw [h.cell (o + i) (by omega)]
 congr 3
 simp only [List.getD_eq_getElem?_getD, List.getElem?_take, List.getElem?_drop];rw [if_pos (by omega)]
theorem Sl.below {w w' : World} {v : Value} {zs : List Nat} (h : Sl w v zs) (hb : Below w.heap.size w w') : Sl w' v zs := by
 obtain ⟨ao, cap, rfl, h1, h2, h3, h4, h5⟩ := h;refine ⟨ao, cap, rfl, h1, h2, h3, h4, fun i hi => ?_⟩;obtain ⟨b, o, e, hc⟩ := h5 i hi;exact ⟨b, o, e, (hb.cell (p := ⟨b, o + i, none⟩) (World.block_lt_of_cell? w _ hc)).trans hc⟩
theorem Sl.small {w : World} {v : Value} {zs : List Nat} (h : Sl w v zs) : ∀ z ∈ zs, z < 256 := by
 obtain ⟨_, _, _, _, _, h3, _⟩ := h;exact h3
theorem Tab.below {w w' : World} (h : Tab w) (hb : Below w.heap.size w w') : Tab w' := fun i hi =>
 (hb.cell (p := ⟨0, i, none⟩) (World.block_lt_of_cell? w _ (h i hi))).trans (h i hi)

theorem same_none (ao ao2 : Option Addr) (c c2 : Nat) (w : World) :
  Calls Tryz.prog 19 #[.slice ao 0 c, .slice ao2 0 c2] w fun e w' => e = .returned (.bool true) ∧ Below w.heap.size w w' := by
 go_enter Tryz.func19, Tryz.ntmps19
 go_wp2
 go_loop [5] (fun i => i = .int .i64 0) (fun _ => 0)
 case atStart => rfl
 case round =>
  subst hrel;go_wp2
  go_ret
  exact ⟨rfl, Below.refl _ _⟩
theorem splice_front (n : Nat) (p : List Nat) : splice (bvs (List.replicate n 0)) 0 (bvs p) = bvs (p ++ List.replicate (n - p.length) 0) := by
 simp [splice, bvs]
def fillTo (p : List Nat) (m k : Nat) : List Nat := p ++ (List.replicate k m ++ List.replicate (80 - k) 0)
def roomed (p : List Nat) (m : Nat) : List Nat := p ++ List.replicate 80 m
theorem fillTo_length (p : List Nat) (m k : Nat) (hk : k ≤ 80) : (fillTo p m k).length = p.length + 80 := by simp [fillTo]; omega
theorem roomed_length (p : List Nat) (m : Nat) : (roomed p m).length = p.length + 80 := by simp [roomed]
theorem fillTo_end (p : List Nat) (m : Nat) : fillTo p m 80 = roomed p m := by simp [fillTo, roomed]
theorem fillTo_set (p : List Nat) (m k : Nat) (hk : k < 80) : (fillTo p m k).set (p.length + k) m = fillTo p m (k + 1) := by
 unfold fillTo;rw [show 80 - k = (80 - (k + 1)) + 1 from by omega, List.replicate_succ, List.replicate_succ'];simp
theorem roomed_small {p : List Nat} {m : Nat} (hp : ∀ z ∈ p, z < 256) (hm : m < 256) : ∀ z ∈ roomed p m, z < 256 := by
 intro z hz;rcases List.mem_append.1 hz with h | h
 ·exact hp z h
 ·rw [List.eq_of_mem_replicate h]; exact hm
theorem Row.set {w : World} {g : Nat} {L : List Nat} (h : Row w g L) (i : Nat) (u : Nat) : Row (w.setCell ⟨g, i, none⟩ (.int .u8 ((u : Nat) : Int))) g (L.set i u) := by
 have e : bvs (L.set i u) = (bvs L).set i (.int .u8 ((u : Nat) : Int)) := by simp [bvs, List.map_set]
 rw [Row, e];simp only [World.setCell, Array.getElem?_modify];rw [if_pos trivial, show w.heap[g]? = _ from h];simp
theorem row_made {w : World} {base g n : Nat} (h : w.ownsRow base 5 1 (.slice (some ⟨g, 0, none⟩) n n) n (madeCells #[Value.int .u8 0] n).toList) : Row w g (List.replicate n 0) := by
 rcases h.2 with ⟨hc, _⟩ | ⟨g', cap, cur, hv, _, hg, _, _, hs, ht⟩
 ·cases hc
 ·cases hv
  rw [Row, hg];have e : cur.toList = bvs (List.replicate n 0) := by
   rw [List.take_of_length_le (by simp [hs])] at ht;rw [ht, toList_madeCells_one];simp [bvs]
  rw [← e]
theorem roomy_any {v : Value} {p : List Nat} {m : Nat} {w : World} (hv : Sl w v p) (hp : p.length ≤ 2147483647) :
  Calls Tryz.prog 13 #[v, .int .u8 ((m : Nat) : Int)] w fun e w' => e = .returned (.slice (some ⟨w.heap.size, 0, none⟩) (p.length + 80) (p.length + 80)) ∧ Row w' w.heap.size (roomed p m) ∧ Below w.heap.size w w' := by
 obtain ⟨ao, cap, rfl, h1, h2, h3, h4, h5⟩ := hv;obtain ⟨i, hi, hz0, hz1, hz2⟩ := info_parts info_byte;have H5 : Hid (∀ i, i < p.length → ∃ b o, ao = some ⟨b, o, none⟩ ∧ w.cell? ⟨b, o + i, none⟩ = some (.int .u8 (p.getD i 0 : Nat))) := h5;have H3 : Hid (∀ z ∈ p, z < 256) := h3;clear h3 h4 h5;go_enter Tryz.func13, Tryz.ntmps13
 go_wp2_with (at_make; refine wpList_make_full _ rfl _ _ 43 rfl w.heap.size 5 i (.int .u8 0) 1 Tryz.underlying43 hi hz0 hz1 _ _ _ _ (p.length + 80) rfl rfl (by omega) (by omega) (by rw [hz2]; omega) (by simp only [maxLen]; omega) (Nat.le_refl _) ?_)
 intro w1 hown hgrow;have hr0 : Row w1 w.heap.size (List.replicate (p.length + 80) 0) := row_made hown;have hb1 : Below w.heap.size w w1 := (Below.refl _ _).grown hgrow (Nat.le_refl _) (by simp);have HR0 : Hid (Row w1 w.heap.size (List.replicate (p.length + 80) 0)) := hr0;have HB1 : Hid (Below w.heap.size w w1) := hb1;clear hown hgrow hr0 hb1;have hsz : (Tryz.prog.info? 5).map (·.size) = some 1 := by rw [hi, Option.map_some, hz1]
 have hpos : 0 < (bvs p).length → (some ⟨w.heap.size, 0, none⟩ : Option Addr) = some ⟨w.heap.size, 0, none⟩ ∧ ∃ ad, ao = some ad ∧ ∀ j v, (bvs p)[j]? = some v → w1.cell? (ad.add j) = some v := by
  intro hp0;rw [bvs_length] at hp0;obtain ⟨b, o, e, _⟩ := H5.out 0 hp0;refine ⟨rfl, ⟨b, o, none⟩, e, fun j v hj => ?_⟩;have hjl : j < p.length := by simpa [bvs_length] using (List.getElem?_eq_some_iff.1 hj).1
  obtain ⟨b', o', e', hc⟩ := H5.out j hjl;rw [e] at e'
  cases e'
  rw [bvs_get p j hjl] at hj;rw [Addr.add_lit, HB1.out.cell (p := ⟨b, o + j, none⟩) (World.block_lt_of_cell? w _ hc), hc, hj]
 have HP := hpos;have HPos : Hid (0 < (bvs p).length → (some ⟨w.heap.size, 0, none⟩ : Option Addr) = some ⟨w.heap.size, 0, none⟩ ∧ ∃ ad, ao = some ad ∧ ∀ j v, (bvs p)[j]? = some v → w1.cell? (ad.add j) = some v) := hpos;have HSz : Hid ((Tryz.prog.info? 5).map (·.size) = some 1) := hsz;have hpl := bvs_length p;have HPl : Hid ((bvs p).length = p.length) := hpl;clear hpos HP hsz hpl;go_wp2_with (refine wpList_copy_splice rfl (.tmp 11) (.tmp 12) 43 43 rfl 5 Tryz.underlying43 HSz.out _ ao _ _ p.length cap rfl rfl w.heap.size 0 (bvs (List.replicate (p.length + 80) 0)) 5 HR0.out (bvs p) (by rw [HPl.out]; exact (Nat.min_eq_left (by omega)).symm) HPos.out (by rw [HPl.out, bvs_length, List.length_replicate]; omega) (bvs_one p) w.heap.size w HB1.out (Nat.le_refl _) ?_)
 intro w2 HG2 hB2;have HR2 : Hid (Row w2 w.heap.size (fillTo p m 0)) := by
  have e := splice_front (p.length + 80) p;rw [Nat.add_sub_cancel_left] at e;have h := HG2.out;rw [e] at h;exact h
 have HB2 : Hid (Below w.heap.size w w2) := hB2;have HB2' : Hid (Below w.heap.size w w2) := hB2;clear hB2 HG2 HPos HSz HPl HR0 HB1 H5 H3;go_wp2
 go_loopw [6] (fun i wr => ∃ k : Nat, k ≤ 80 ∧ i = .int .i64 ((p.length + k : Nat) : Int) ∧ Hid (Row wr w.heap.size (fillTo p m k)) ∧ Hid (Below w.heap.size w wr)) (fun i _ => p.length + 80 - (intOf i).toNat)
 case atStart => exact ⟨0, by omega, rfl, HR2, HB2⟩
 case round =>
  obtain ⟨k, hk, rfl, HR, HB⟩ := hrel
  by_cases hlt : k < 80
  ·have hcell := HR.out.cell (p.length + k) (by rw [fillTo_length p m k hk]; omega);have hthaw := HR.out.thawed (p.length + k);generalize (fillTo p m k).getD (p.length + k) 0 = z at hcell;go_wp2
   go_roundw
   case rel =>
    refine ⟨k + 1, by omega, by go_num, ?_, HB.out.setCell (Nat.le_refl _) _⟩;have h := HR.out.set (p.length + k) m;rw [fillTo_set p m k hlt] at h;exact h
   case measure => simp [intOf]; omega
  ·have HE : Hid (k = 80) := (by omega : k = 80)
   go_wp2
   go_ret
   refine ⟨rfl, ?_, HB.out⟩;have h := HR.out;rw [HE.out, fillTo_end] at h;exact h
end Go.Proofs.YtmfkggngjeolcaaGreatDoor
namespace Go.Proofs.YtmfkggngjeolcaaGreatDoor
open Go.RowKit
theorem Sl.front {w : World} {b o cap : Nat} {zs : List Nat} (h : Sl w (.slice (some ⟨b, o, none⟩) zs.length cap) zs) (n : Nat) (hn : n ≤ zs.length) : Sl w (.slice (some ⟨b, o, none⟩) n cap) (zs.take n) := by
 obtain ⟨ao, cap', e, h1, h2, h3, h4, h5⟩ := h
 cases e
 refine ⟨some ⟨b, o, none⟩, cap, by rw [List.length_take, Nat.min_eq_left hn], by rw [List.length_take]; omega, h2, fun z hz => h3 z (List.mem_of_mem_take hz), by simp, fun i hi => ?_⟩;rw [List.length_take] at hi;obtain ⟨b', o', e, hc⟩ := h5 i (by omega)
 cases e
 refine ⟨b, o, rfl, hc.trans ?_⟩;rw [List.getD_eq_getElem?_getD, List.getD_eq_getElem?_getD, List.getElem?_take, if_pos (by omega)]
end Go.Proofs.YtmfkggngjeolcaaGreatDoor
namespace Go.Proofs.YtmfkggngjeolcaaGreatDoor
open Go.RowKit
theorem bvs_append (xs ys : List Nat) : bvs (xs ++ ys) = bvs xs ++ bvs ys := by simp [bvs]
def Own (w : World) (base : Nat) (v : Value) (xs : List Nat) : Prop := w.ownsRow base 5 1 v xs.length (bvs xs)
theorem run_append_sl {w : World} {base : Nat} {v x : Value} {xs ys : List Nat} (ty : TypeId) (hown : Own w base v xs) (hx : Sl w x ys) (hb : xs.length + ys.length ≤ 1099511627776) (hbase : base ≤ w.heap.size) :
  ∃ v' w', (Builtin.append_ #[43, 43] ty #[v, x]).run Tryz.prog w = .ok v' w' ∧ Own w' base v' (xs ++ ys) ∧ w.grownBy w' v.ownBlock ∧ (v'.ownBlock = v.ownBlock ∨ v'.ownBlock = some w.heap.size) := by
 obtain ⟨i, hi, hz0, hz1, hz2⟩ := info_parts info_byte;have hb2 : xs.length + ys.length ≤ maxLen := by unfold maxLen; omega
 have key : ∀ ad c, x = .slice (some ad) ys.length c → (∀ j u, (bvs ys)[j]? = some u → w.cell? (ad.add j) = some u) → ∃ v' w', (Builtin.append_ #[43, 43] ty #[v, x]).run Tryz.prog w = .ok v' w' ∧ Own w' base v' (xs ++ ys) ∧ w.grownBy w' v.ownBlock ∧ (v'.ownBlock = v.ownBlock ∨ v'.ownBlock = some w.heap.size) := by
  intro ad c e hc;subst e;obtain ⟨v', w', h1, h2, h3, _, h5⟩ := run_append_own_at (P := Tryz.prog) w base 43 ty 5 i (.int .u8 0) 1 1 Tryz.underlying43 hi hz0 hz1 hz2 rfl (by omega) v xs.length (bvs xs) hown ad ys.length c (bvs ys) (by rw [bvs_length]; omega) hc (bvs_one ys) hb2 (by omega) hbase;refine ⟨v', w', h1, ?_, h3, h5⟩;unfold Own;rw [List.length_append, bvs_append];exact h2
 by_cases hp : 0 < ys.length
 ·obtain ⟨b, o, cap, rfl, h1, h2, h3, h4⟩ := hx.pos hp;refine key _ cap rfl fun j u hj => ?_;have hjl : j < ys.length := by simpa [bvs_length] using (List.getElem?_eq_some_iff.1 hj).1
  rw [bvs_get ys j hjl] at hj;rw [Addr.add_lit, h4 j hjl, hj]
 ·obtain rfl : ys = [] := List.eq_nil_of_length_eq_zero (by omega);obtain ⟨ao, cap, rfl, h1, h2, h3, h4, h5⟩ := hx
  cases ao with
  | some ad => exact key ad cap rfl fun j u hj => by simp [bvs] at hj
  | none =>
   obtain rfl := h4 rfl;refine ⟨v, w, run_append_owned_none (P := Tryz.prog) w base 43 ty 5 i 1 Tryz.underlying43 hi v xs.length (bvs xs) hown, ?_, World.grownBy.refl _ _, .inl rfl⟩;rw [List.append_nil];exact hown
theorem wpList_append_sl {w : World} {ops : Array Oper} {rest : List Oper} {o : Oper} {a : Act} {Q : Exit → Act → World → Prop} (s x : Operand) (hw : Region.wanted o (yielded ops a.tmps) = true)
  (ho : o.op = .call { callee := .builtin .append, args := #[s, x], argTypes := #[43, 43] })
  {base : Nat} {v u : Value} {xs ys : List Nat} (hs : a.eval s = v) (hown : Own w base v xs) (hx : a.eval x = u) (hsl : Sl w u ys) (hb : xs.length + ys.length ≤ 1099511627776) (hbase : base ≤ w.heap.size)
  (h : ∀ v' w', Own w' base v' (xs ++ ys) → w.grownBy w' v.ownBlock → (v'.ownBlock = v.ownBlock ∨ v'.ownBlock = some w.heap.size) → wpList Tryz.prog ops Q rest (a.put o.dst v') w') : wpList Tryz.prog ops Q (o :: rest) a w := by
 refine wpList_step fun K hK => ?_;rw [if_pos hw];obtain ⟨v', w', hr, h2, h3, h4⟩ := run_append_sl o.type hown hsl hb hbase;unfold Oper.wp execOp;simp only [ho, resolve, invoke, builtin, Sem.run_bind, Sem.run_pure, Result.andThen_ok, List.map_toArray, List.map_cons, List.map_nil, hs, hx, hr];exact hK _ _ (h v' w' h2 h3 h4)
theorem own_nil (w : World) (base : Nat) : Own w base (.slice none 0 0) [] := World.ownsRow_nil w base 5 1
theorem Own.sl {w : World} {base : Nat} {v : Value} {xs : List Nat} (h : Own w base v xs) (hz : ∀ z ∈ xs, z < 256) : Sl w v xs := by
 rcases h.2 with ⟨rfl, h0⟩ | ⟨g, cap, cur, rfl, hb, hg, hnc, hcm, hcs, ht⟩
 ·obtain rfl : xs = [] := List.eq_nil_of_length_eq_zero h0;exact ⟨none, 0, rfl, by simp, by simp [maxLen], by simp, fun _ => rfl, fun i hi => by simp at hi⟩
 ·refine ⟨some ⟨g, 0, none⟩, cap, rfl, hnc, hcm, hz, by simp, fun i hi => ⟨g, 0, rfl, ?_⟩⟩;have := h.cells (g := g) rfl i _ (bvs_get xs i hi)
  rwa [Addr.add_lit] at this
theorem Own.kept {w w' : World} {base : Nat} {v : Value} {xs : List Nat} {row : Option Nat} (h : Own w base v xs) (hg : w.grownBy w' row) (hne : v.ownBlock = none ∨ v.ownBlock ≠ row) : Own w' base v xs := World.ownsRow.kept h hg hne
theorem Own.lt {w : World} {base : Nat} {v : Value} {xs : List Nat} (h : Own w base v xs) : ∀ k, v.ownBlock = some k → base ≤ k ∧ k < w.heap.size := World.ownsRow.lt h
theorem Own.below {w w' : World} {base : Nat} {v : Value} {xs : List Nat} (h : Own w base v xs) (hb : Below w.heap.size w w') : Own w' base v xs :=
 h.kept (row := none) ⟨hb.os, hb.tape, hb.output, hb.size, fun k hk _ => hb.block k hk⟩ (by cases hv : v.ownBlock <;> simp)
end Go.Proofs.YtmfkggngjeolcaaGreatDoor
