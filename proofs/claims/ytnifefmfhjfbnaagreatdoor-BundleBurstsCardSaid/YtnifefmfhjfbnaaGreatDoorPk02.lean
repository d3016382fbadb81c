import Derived.Test.YtnifefmfhjfbnaaGreatDoorPk01
import Derived.Maps.AppendAt
/- Intact (where it must be true) and Beyond, of two numbers. -/
namespace Go.Proofs.YtnifefmfhjfbnaaGreatDoor
open Go.RowKit
theorem Sl.front {w : World} {b o cap : Nat} {zs : List Nat} (h : Sl w (.slice (some ⟨b, o, none⟩) zs.length cap) zs) (n : Nat) (hn : n ≤ zs.length) : Sl w (.slice (some ⟨b, o, none⟩) n cap) (zs.take n) := by
 obtain ⟨ao, cap', e, h1, h2, h3, h4, h5⟩ := h
 cases e
 refine ⟨some ⟨b, o, none⟩, cap, by rw [List.length_take, Nat.min_eq_left hn], by rw [List.length_take]; omega, h2, fun z hz => h3 z (List.mem_of_mem_take hz), by simp, fun i hi => ?_⟩
 rw [List.length_take] at hi
 obtain ⟨b', o', e, hc⟩ := h5 i (by omega)
 cases e
 refine ⟨b, o, rfl, hc.trans ?_⟩
 rw [List.getD_eq_getElem?_getD, List.getD_eq_getElem?_getD, List.getElem?_take, if_pos (by omega)]
end Go.Proofs.YtnifefmfhjfbnaaGreatDoor
/- append(dst, src...) onto a row of bytes that the call owns, from whatever slice of bytes. -/
namespace Go.Proofs.YtnifefmfhjfbnaaGreatDoor
open Go.RowKit
theorem bvs_append (xs ys : List Nat) : bvs (xs ++ ys) = bvs xs ++ bvs ys := by simp [bvs]
/-- a row of bytes that is owned from base on: its value, its bytes -/
def Own (w : World) (base : Nat) (v : Value) (xs : List Nat) : Prop := w.ownsRow base 5 1 v xs.length (bvs xs)
theorem run_append_sl {w : World} {base : Nat} {v x : Value} {xs ys : List Nat} (ty : TypeId) (hown : Own w base v xs) (hx : Sl w x ys) (hb : xs.length + ys.length ≤ 1099511627776) (hbase : base ≤ w.heap.size) :
  ∃ v' w', (Builtin.append_ #[22, 22] ty #[v, x]).run Tryz.prog w = .ok v' w' ∧ Own w' base v' (xs ++ ys) ∧ w.grownBy w' v.ownBlock ∧ (v'.ownBlock = v.ownBlock ∨ v'.ownBlock = some w.heap.size) := by
 obtain ⟨i, hi, hz0, hz1, hz2⟩ := info_parts info_byte
 have hb2 : xs.length + ys.length ≤ maxLen := by unfold maxLen; omega
 have key : ∀ ad c, x = .slice (some ad) ys.length c → (∀ j u, (bvs ys)[j]? = some u → w.cell? (ad.add j) = some u) → ∃ v' w', (Builtin.append_ #[22, 22] ty #[v, x]).run Tryz.prog w = .ok v' w' ∧ Own w' base v' (xs ++ ys) ∧ w.grownBy w' v.ownBlock ∧ (v'.ownBlock = v.ownBlock ∨ v'.ownBlock = some w.heap.size) := by
  intro ad c e hc
  subst e
  obtain ⟨v', w', h1, h2, h3, _, h5⟩ := run_append_own_at (P := Tryz.prog) w base 22 ty 5 i (.int .u8 0) 1 1 Tryz.underlying22 hi hz0 hz1 hz2 rfl (by omega) v xs.length (bvs xs) hown ad ys.length c (bvs ys) (by rw [bvs_length]; omega) hc (bvs_one ys) hb2 (by omega) hbase
  refine ⟨v', w', h1, ?_, h3, h5⟩
  unfold Own
  rw [List.length_append, bvs_append]
  exact h2
 by_cases hp : 0 < ys.length
 ·obtain ⟨b, o, cap, rfl, h1, h2, h3, h4⟩ := hx.pos hp
  refine key _ cap rfl fun j u hj => ?_
  have hjl : j < ys.length := by simpa [bvs_length] using (List.getElem?_eq_some_iff.1 hj).1
  rw [bvs_get ys j hjl] at hj
  rw [Addr.add_lit, h4 j hjl, hj]
 ·obtain rfl : ys = [] := List.eq_nil_of_length_eq_zero (by omega)
  obtain ⟨ao, cap, rfl, h1, h2, h3, h4, h5⟩ := hx
  cases ao with
  | some ad => exact key ad cap rfl fun j u hj => by simp [bvs] at hj
  | none =>
   obtain rfl := h4 rfl
   refine ⟨v, w, run_append_owned_none (P := Tryz.prog) w base 22 ty 5 i 1 Tryz.underlying22 hi v xs.length (bvs xs) hown, ?_, World.grownBy.refl _ _, .inl rfl⟩
   rw [List.append_nil]
   exact hown
theorem wpList_append_sl {w : World} {ops : Array Oper} {rest : List Oper} {o : Oper} {a : Act} {Q : Exit → Act → World → Prop} (s x : Operand) (hw : Region.wanted o (yielded ops a.tmps) = true)
  (ho : o.op = .call { callee := .builtin .append, args := #[s, x], argTypes := #[22, 22] })
  {base : Nat} {v u : Value} {xs ys : List Nat} (hs : a.eval s = v) (hown : Own w base v xs) (hx : a.eval x = u) (hsl : Sl w u ys) (hb : xs.length + ys.length ≤ 1099511627776) (hbase : base ≤ w.heap.size)
  (h : ∀ v' w', Own w' base v' (xs ++ ys) → w.grownBy w' v.ownBlock → (v'.ownBlock = v.ownBlock ∨ v'.ownBlock = some w.heap.size) → wpList Tryz.prog ops Q rest (a.put o.dst v') w') : wpList Tryz.prog ops Q (o :: rest) a w := by
 refine wpList_step fun K hK => ?_
 rw [if_pos hw]
 obtain ⟨v', w', hr, h2, h3, h4⟩ := run_append_sl o.type hown hsl hb hbase
 unfold Oper.wp execOp
 simp only [ho, resolve, invoke, builtin, Sem.run_bind, Sem.run_pure, Result.andThen_ok, List.map_toArray, List.map_cons, List.map_nil, hs, hx, hr]
 exact hK _ _ (h v' w' h2 h3 h4)
theorem own_nil (w : World) (base : Nat) : Own w base (.slice none 0 0) [] := World.ownsRow_nil w base 5 1
/-- what is owned reads as it is -/
theorem Own.sl {w : World} {base : Nat} {v : Value} {xs : List Nat} (h : Own w base v xs) (hz : ∀ z ∈ xs, z < 256) : Sl w v xs := by
 rcases h.2 with ⟨rfl, h0⟩ | ⟨g, cap, cur, rfl, hb, hg, hnc, hcm, hcs, ht⟩
 ·obtain rfl : xs = [] := List.eq_nil_of_length_eq_zero h0
  exact ⟨none, 0, rfl, by simp, by simp [maxLen], by simp, fun _ => rfl, fun i hi => by simp at hi⟩
 ·refine ⟨some ⟨g, 0, none⟩, cap, rfl, hnc, hcm, hz, by simp, fun i hi => ⟨g, 0, rfl, ?_⟩⟩
  have := h.cells (g := g) rfl i _ (bvs_get xs i hi)
  rwa [Addr.add_lit] at this
theorem Own.kept {w w' : World} {base : Nat} {v : Value} {xs : List Nat} {row : Option Nat} (h : Own w base v xs) (hg : w.grownBy w' row) (hne : v.ownBlock = none ∨ v.ownBlock ≠ row) : Own w' base v xs := World.ownsRow.kept h hg hne
/-- its block, where it has one, is base or above and lies in the heap -/
theorem Own.lt {w : World} {base : Nat} {v : Value} {xs : List Nat} (h : Own w base v xs) : ∀ k, v.ownBlock = some k → base ≤ k ∧ k < w.heap.size := World.ownsRow.lt h
theorem Own.below {w w' : World} {base : Nat} {v : Value} {xs : List Nat} (h : Own w base v xs) (hb : Below w.heap.size w w') : Own w' base v xs :=
 h.kept (row := none) ⟨hb.os, hb.tape, hb.output, hb.size, fun k hk _ => hb.block k hk⟩ (by cases hv : v.ownBlock <;> simp)
end Go.Proofs.YtnifefmfhjfbnaaGreatDoor
