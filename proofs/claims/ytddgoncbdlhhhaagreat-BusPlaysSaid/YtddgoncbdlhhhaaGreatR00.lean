import Derived.Test.YtddgoncbdlhhhaaGreatProg
import Derived.WalkKit
import Derived.WalkSpells
import Derived.WalkLawsBesides
import Derived.Laws.BitsAllLaws
import Derived.Deep.QuietTactic
import Derived.BigQuiet
import Derived.Laws.CopyOwn
import Derived.Maps.AppendAt
import Derived.Maps.OwnSet
import Derived.Maps.Views
import Derived.Deep.RegionHeld3
import Derived.Deep.MidRow
/- Bytes in memory, numbers as bytes: what bus needs of word's texts (made by gen_bword.py of the same templates). Own work. -/
namespace Go.Proofs.YtddgoncbdlhhhaaGreat
open Go.RowKit
namespace Pl
theorem mem_getD {zs : List Nat} {k : Nat} (hz : ∀ z ∈ zs, z < 256) : zs.getD k 0 < 256 := by
  by_cases h : k < zs.length
  · rw [List.getD_eq_getElem?_getD, List.getElem?_eq_getElem h]; exact hz _ (List.getElem_mem h)
  · rw [List.getD_eq_getElem?_getD, List.getElem?_eq_none (by omega)]; decide
end Pl
namespace Pl
/-- a number's bytes, the lowest first -/
def le : Nat → Nat → List Nat
  | 0, _ => []
  | k + 1, n => n % 256 :: le k (n / 256)
end Pl
namespace Pl
theorem le_length (k n : Nat) : (le k n).length = k := by
  induction k generalizing n with
  | zero => rfl
  | succ k ih => simp [le, ih]
end Pl
namespace Pl
theorem le_small (k n : Nat) : ∀ z ∈ le k n, z < 256 := by
  induction k generalizing n with
  | zero => intro z hz; cases hz
  | succ k ih =>
    intro z hz
    rcases List.mem_cons.1 hz with rfl | h
    · omega
    · exact ih _ z h
end Pl
namespace Pl
/-- the number without its k lowest bytes -/
def shr : Nat → Nat → Nat
  | 0, n => n
  | k + 1, n => shr k n / 256
end Pl
namespace Pl
theorem le_snoc (k n : Nat) : le (k + 1) n = le k n ++ [shr k n % 256] := by
  induction k generalizing n with
  | zero => rfl
  | succ k ih =>
    have e : ∀ k n, shr k (n / 256) = shr (k + 1) n := by
      intro k n
      induction k with
      | zero => rfl
      | succ k ih2 => show shr k (n / 256) / 256 = _; rw [ih2]; rfl
    rw [show le (k + 1 + 1) n = n % 256 :: le (k + 1) (n / 256) from rfl, ih, e]
    rfl
end Pl
namespace Pl
theorem shr_le (k n : Nat) : shr k n ≤ n := by
  induction k with
  | zero => exact Nat.le_refl _
  | succ k ih => show shr k n / 256 ≤ n; omega
end Pl
namespace Pl
/-- the number that m bytes from the k-th on are -/
def acc (zs : List Nat) : Nat → Nat → Nat
  | _, 0 => 0
  | k, m + 1 => zs.getD k 0 + 256 * acc zs (k + 1) m
end Pl
namespace Pl
def num (m : Nat) (zs : List Nat) : Nat := acc zs 0 m
end Pl
namespace Pl
theorem acc_lt {zs : List Nat} (h : ∀ z ∈ zs, z < 256) (k m : Nat) : acc zs k m < 256 ^ m := by
  induction m generalizing k with
  | zero => simp [acc]
  | succ m ih =>
    have h1 := mem_getD (k := k) h
    have h2 := ih (k + 1)
    show zs.getD k 0 + 256 * acc zs (k + 1) m < 256 ^ (m + 1)
    rw [Nat.pow_succ]
    omega
end Pl
namespace Pl
theorem acc_cons (x : Nat) (zs : List Nat) (k m : Nat) : acc (x :: zs) (k + 1) m = acc zs k m := by
  induction m generalizing k with
  | zero => rfl
  | succ m ih => show (x :: zs).getD (k + 1) 0 + _ = zs.getD k 0 + _; rw [ih]; rfl
end Pl
namespace Pl
/-- what le lays num reads -/
theorem num_le (m n : Nat) (r : List Nat) (h : n < 256 ^ m) : num m (le m n ++ r) = n := by
  induction m generalizing n with
  | zero => simp [num, acc]; simp at h; omega
  | succ m ih =>
    have hd : n / 256 < 256 ^ m := by rw [Nat.pow_succ] at h; exact Nat.div_lt_of_lt_mul (by omega)
    have e := ih (n / 256) hd
    show acc (n % 256 :: (le m (n / 256) ++ r)) 0 (m + 1) = n
    show n % 256 + 256 * acc (n % 256 :: (le m (n / 256) ++ r)) (0 + 1) m = n
    rw [acc_cons]
    rw [show acc (le m (n / 256) ++ r) 0 m = n / 256 from e]
    omega
end Pl
/-- 'v' is a slice of bytes that reads as zs -/
def Sl (w : World) (v : Value) (zs : List Nat) : Prop :=
  ∃ ao cap, v = .slice ao zs.length cap ∧ zs.length ≤ cap ∧ cap ≤ maxLen ∧ (∀ z ∈ zs, z < 256) ∧ (ao = none → cap = 0) ∧ ∀ i, i < zs.length → ∃ b o, ao = some ⟨b, o, none⟩ ∧ w.cell? ⟨b, o + i, none⟩ = some (.int .u8 (zs.getD i 0 : Nat))
theorem Sl.pos {w : World} {v : Value} {zs : List Nat} (h : Sl w v zs) (hp : 0 < zs.length) : ∃ b o cap, v = .slice (some ⟨b, o, none⟩) zs.length cap ∧ zs.length ≤ cap ∧ cap ≤ maxLen ∧ (∀ z ∈ zs, z < 256) ∧ ∀ i, i < zs.length → w.cell? ⟨b, o + i, none⟩ = some (.int .u8 (zs.getD i 0 : Nat)) := by
  obtain ⟨ao, cap, rfl, h1, h2, h3, h4, h5⟩ := h
  obtain ⟨b, o, rfl, _⟩ := h5 0 hp
  refine ⟨b, o, cap, rfl, h1, h2, h3, fun i hi => ?_⟩
  obtain ⟨b', o', e, hc⟩ := h5 i hi
  cases e
  exact hc
theorem info_byte : (Tryz.prog.info? 5).map (fun i => (i.zero, i.size, i.bytes)) = some (some (.int .u8 0), 1, 1) := by kernel_rfl
theorem info_int : (Tryz.prog.info? 3).map (fun i => (i.zero, i.size, i.bytes)) = some (some (.int .i64 0), 1, 8) := by kernel_rfl

/-- a row of bytes in a block of its own -/
def bvs (L : List Nat) : List Value := L.map fun z => Value.int .u8 ((z : Nat) : Int)
def Row (w : World) (g : Nat) (L : List Nat) : Prop := w.heap[g]? = some (.cells (bvs L).toArray 5 (0, 0))
theorem bvs_length (L : List Nat) : (bvs L).length = L.length := by simp [bvs]
theorem bvs_get (L : List Nat) (i : Nat) (h : i < L.length) : (bvs L)[i]? = some (.int .u8 ((L.getD i 0 : Nat) : Int)) := by
  simp [bvs, List.getElem?_eq_getElem h]
theorem bvs_one (L : List Nat) : ∀ u ∈ bvs L, u.oneCell' = true := by
  intro u hu
  obtain ⟨_, _, rfl⟩ := List.mem_map.1 hu
  rfl
theorem Row.lt {w : World} {g : Nat} {L : List Nat} (h : Row w g L) : g < w.heap.size := (Array.getElem?_eq_some_iff.1 h).1
theorem Row.cell {w : World} {g : Nat} {L : List Nat} (h : Row w g L) (i : Nat) (hi : i < L.length) : w.cell? ⟨g, i, none⟩ = some (.int .u8 ((L.getD i 0 : Nat) : Int)) := by
  rw [cell_of_row w g i _ _ _ h]
  simpa using bvs_get L i hi
theorem Row.thawed {w : World} {g : Nat} {L : List Nat} (h : Row w g L) (i : Nat) : w.frozen? ⟨g, i, none⟩ = false := by
  simp [World.frozen?, show w.heap[g]? = _ from h]
theorem Row.kept {w w' : World} {g : Nat} {L : List Nat} (h : Row w g L) (e : w'.heap[g]? = w.heap[g]?) : Row w' g L := by
  rw [Row, e]; exact h
theorem Row.below {w w' : World} {g : Nat} {L : List Nat} (h : Row w g L) (hb : Below w.heap.size w w') : Row w' g L := h.kept (hb.block g h.lt)
theorem Row.sl {w : World} {g : Nat} {L : List Nat} (h : Row w g L) (hz : ∀ z ∈ L, z < 256) (o n cap : Nat) (hn : o + n ≤ L.length) (hc : n ≤ cap) (hm : cap ≤ maxLen) :
    Sl w (.slice (some ⟨g, o, none⟩) n cap) ((L.drop o).take n) := by
  have hl : ((L.drop o).take n).length = n := by simp; omega
  refine ⟨some ⟨g, o, none⟩, cap, by rw [hl], by omega, hm, fun z hz' => hz z (List.mem_of_mem_drop (List.mem_of_mem_take hz')), by simp, fun i hi => ⟨g, o, rfl, ?_⟩⟩
  rw [h.cell (o + i) (by omega)]
  congr 3
  simp only [List.getD_eq_getElem?_getD, List.getElem?_take, List.getElem?_drop]
  rw [if_pos (by omega)]
theorem Sl.below {w w' : World} {v : Value} {zs : List Nat} (h : Sl w v zs) (hb : Below w.heap.size w w') : Sl w' v zs := by
  obtain ⟨ao, cap, rfl, h1, h2, h3, h4, h5⟩ := h
  refine ⟨ao, cap, rfl, h1, h2, h3, h4, fun i hi => ?_⟩
  obtain ⟨b, o, e, hc⟩ := h5 i hi
  exact ⟨b, o, e, (hb.cell (p := ⟨b, o + i, none⟩) (World.block_lt_of_cell? w _ hc)).trans hc⟩
theorem Sl.small {w : World} {v : Value} {zs : List Nat} (h : Sl w v zs) : ∀ z ∈ zs, z < 256 := by
  obtain ⟨_, _, _, _, _, h3, _⟩ := h
  exact h3
set_option maxHeartbeats 1000000 in
theorem same_pos (xs : List Nat) (b o c b2 o2 c2 : Nat) (w : World) (h1 : xs.length ≤ c) (h2 : c ≤ maxLen)
    (hc : ∀ i, i < xs.length → w.cell? ⟨b, o + i, none⟩ = some (.int .u8 (xs.getD i 0 : Nat))) (hc2 : ∀ i, i < xs.length → w.cell? ⟨b2, o2 + i, none⟩ = some (.int .u8 (xs.getD i 0 : Nat))) :
    Calls Tryz.prog 34 #[.slice (some ⟨b, o, none⟩) xs.length c, .slice (some ⟨b2, o2, none⟩) xs.length c2] w fun e w' => e = .returned (.bool true) ∧ Below w.heap.size w w' := by
  unfold maxLen at h2
  have HC : Hid (∀ i, i < xs.length → w.cell? ⟨b, o + i, none⟩ = some (.int .u8 (xs.getD i 0 : Nat))) := hc
  have HC2 : Hid (∀ i, i < xs.length → w.cell? ⟨b2, o2 + i, none⟩ = some (.int .u8 (xs.getD i 0 : Nat))) := hc2
  clear hc hc2
  go_enter Tryz.func34, Tryz.ntmps34
  go_wp2
  go_loopw [5] (fun i wr => ∃ k : Nat, k ≤ xs.length ∧ i = .int .i64 k ∧ (∀ p, wr.cell? p = w.cell? p) ∧ Hid (Below w.heap.size w wr)) (fun i _ => xs.length - (intOf i).toNat)
  case atStart => exact ⟨0, Nat.zero_le _, rfl, fun _ => rfl, Below.refl _ _⟩
  case round =>
    obtain ⟨k, hk, rfl, hcw, HB⟩ := hrel
    by_cases hlt : k < xs.length
    · have q1 := (hcw _).trans (HC.out k hlt)
      have q2 := (hcw _).trans (HC2.out k hlt)
      generalize xs.getD k 0 = z at *
      have HCW : Hid (∀ p, wr.cell? p = w.cell? p) := hcw
      clear hcw
      go_wp2
      go_region
      all_goals
        go_wp2
        go_roundw
        case rel => exact ⟨k + 1, by omega, by go_num, HCW.out, by repeat (first | exact HB.out | refine Below.drew ?_)⟩
        case measure => simp [intOf]; omega
    · go_wp2
      go_ret
      exact ⟨rfl, HB.out⟩
set_option maxHeartbeats 400000 in
theorem same_none (ao ao2 : Option Addr) (c c2 : Nat) (w : World) :
    Calls Tryz.prog 34 #[.slice ao 0 c, .slice ao2 0 c2] w fun e w' => e = .returned (.bool true) ∧ Below w.heap.size w w' := by
  go_enter Tryz.func34, Tryz.ntmps34
  go_wp2
  go_loop [5] (fun i => i = .int .i64 0) (fun _ => 0)
  case atStart => rfl
  case round =>
    subst hrel
    go_wp2
    go_ret
    exact ⟨rfl, Below.refl _ _⟩
theorem same_any {u v : Value} {xs : List Nat} {w : World} (hu : Sl w u xs) (hv : Sl w v xs) :
    Calls Tryz.prog 34 #[u, v] w fun e w' => e = .returned (.bool true) ∧ Below w.heap.size w w' := by
  by_cases hp : 0 < xs.length
  · obtain ⟨b, o, c, rfl, h1, h2, h3, h4⟩ := hu.pos hp
    obtain ⟨b2, o2, c2, rfl, _, _, _, k4⟩ := hv.pos hp
    exact same_pos xs b o c b2 o2 c2 w h1 h2 h4 k4
  · obtain rfl : xs = [] := List.eq_nil_of_length_eq_zero (by omega)
    obtain ⟨ao, cap, rfl, _⟩ := hu
    obtain ⟨ao2, cap2, rfl, _⟩ := hv
    exact same_none ao ao2 cap cap2 w
theorem splice_front (n : Nat) (p : List Nat) : splice (bvs (List.replicate n 0)) 0 (bvs p) = bvs (p ++ List.replicate (n - p.length) 0) := by
  simp [splice, bvs]
theorem Row.set {w : World} {g : Nat} {L : List Nat} (h : Row w g L) (i : Nat) (u : Nat) : Row (w.setCell ⟨g, i, none⟩ (.int .u8 ((u : Nat) : Int))) g (L.set i u) := by
  have e : bvs (L.set i u) = (bvs L).set i (.int .u8 ((u : Nat) : Int)) := by simp [bvs, List.map_set]
  rw [Row, e]
  simp only [World.setCell, Array.getElem?_modify]
  rw [if_pos trivial, show w.heap[g]? = _ from h]
  simp
theorem row_made {w : World} {base g n : Nat} (h : w.ownsRow base 5 1 (.slice (some ⟨g, 0, none⟩) n n) n (madeCells #[Value.int .u8 0] n).toList) : Row w g (List.replicate n 0) := by
  rcases h.2 with ⟨hc, _⟩ | ⟨g', cap, cur, hv, _, hg, _, _, hs, ht⟩
  · cases hc
  · cases hv
    rw [Row, hg]
    have e : cur.toList = bvs (List.replicate n 0) := by
      rw [List.take_of_length_le (by simp [hs])] at ht
      rw [ht, toList_madeCells_one]
      simp [bvs]
    rw [← e]
theorem Sl.front {w : World} {b o cap : Nat} {zs : List Nat} (h : Sl w (.slice (some ⟨b, o, none⟩) zs.length cap) zs) (n : Nat) (hn : n ≤ zs.length) : Sl w (.slice (some ⟨b, o, none⟩) n cap) (zs.take n) := by
  obtain ⟨ao, cap', e, h1, h2, h3, h4, h5⟩ := h
  cases e
  refine ⟨some ⟨b, o, none⟩, cap, by rw [List.length_take, Nat.min_eq_left hn], by rw [List.length_take]; omega, h2, fun z hz => h3 z (List.mem_of_mem_take hz), by simp, fun i hi => ?_⟩
  rw [List.length_take] at hi
  obtain ⟨b', o', e, hc⟩ := h5 i (by omega)
  cases e
  refine ⟨b, o, rfl, hc.trans ?_⟩
  rw [List.getD_eq_getElem?_getD, List.getD_eq_getElem?_getD, List.getElem?_take, if_pos (by omega)]
theorem bvs_append (xs ys : List Nat) : bvs (xs ++ ys) = bvs xs ++ bvs ys := by simp [bvs]
/-- a row of bytes that is owned from base on: its value, its bytes -/
def Own (w : World) (base : Nat) (v : Value) (xs : List Nat) : Prop := w.ownsRow base 5 1 v xs.length (bvs xs)
theorem run_append_sl {w : World} {base : Nat} {v x : Value} {xs ys : List Nat} (ty : TypeId) (hown : Own w base v xs) (hx : Sl w x ys) (hb : xs.length + ys.length ≤ 1099511627776) (hbase : base ≤ w.heap.size) :
    ∃ v' w', (Builtin.append_ #[27, 27] ty #[v, x]).run Tryz.prog w = .ok v' w' ∧ Own w' base v' (xs ++ ys) ∧ w.grownBy w' v.ownBlock ∧ (v'.ownBlock = v.ownBlock ∨ v'.ownBlock = some w.heap.size) := by
  obtain ⟨i, hi, hz0, hz1, hz2⟩ := info_parts info_byte
  have hb2 : xs.length + ys.length ≤ maxLen := by unfold maxLen; omega
  have key : ∀ ad c, x = .slice (some ad) ys.length c → (∀ j u, (bvs ys)[j]? = some u → w.cell? (ad.add j) = some u) → ∃ v' w', (Builtin.append_ #[27, 27] ty #[v, x]).run Tryz.prog w = .ok v' w' ∧ Own w' base v' (xs ++ ys) ∧ w.grownBy w' v.ownBlock ∧ (v'.ownBlock = v.ownBlock ∨ v'.ownBlock = some w.heap.size) := by
    intro ad c e hc
    subst e
    obtain ⟨v', w', h1, h2, h3, _, h5⟩ := run_append_own_at (P := Tryz.prog) w base 27 ty 5 i (.int .u8 0) 1 1 Tryz.underlying27 hi hz0 hz1 hz2 rfl (by omega) v xs.length (bvs xs) hown ad ys.length c (bvs ys) (by rw [bvs_length]; omega) hc (bvs_one ys) hb2 (by omega) hbase
    refine ⟨v', w', h1, ?_, h3, h5⟩
    unfold Own
    rw [List.length_append, bvs_append]
    exact h2
  by_cases hp : 0 < ys.length
  · obtain ⟨b, o, cap, rfl, h1, h2, h3, h4⟩ := hx.pos hp
    refine key _ cap rfl fun j u hj => ?_
    have hjl : j < ys.length := by simpa [bvs_length] using (List.getElem?_eq_some_iff.1 hj).1
    rw [bvs_get ys j hjl] at hj
    rw [Addr.add_lit, h4 j hjl, hj]
  · obtain rfl : ys = [] := List.eq_nil_of_length_eq_zero (by omega)
    obtain ⟨ao, cap, rfl, h1, h2, h3, h4, h5⟩ := hx
    cases ao with
    | some ad => exact key ad cap rfl fun j u hj => by simp [bvs] at hj
    | none =>
      obtain rfl := h4 rfl
      refine ⟨v, w, run_append_owned_none (P := Tryz.prog) w base 27 ty 5 i 1 Tryz.underlying27 hi v xs.length (bvs xs) hown, ?_, World.grownBy.refl _ _, .inl rfl⟩
      rw [List.append_nil]
      exact hown
theorem wpList_append_sl {w : World} {ops : Array Oper} {rest : List Oper} {o : Oper} {a : Act} {Q : Exit → Act → World → Prop} (s x : Operand) (hw : Region.wanted o (yielded ops a.tmps) = true)
    (ho : o.op = .call { callee := .builtin .append, args := #[s, x], argTypes := #[27, 27] })
    {base : Nat} {v u : Value} {xs ys : List Nat} (hs : a.eval s = v) (hown : Own w base v xs) (hx : a.eval x = u) (hsl : Sl w u ys) (hb : xs.length + ys.length ≤ 1099511627776) (hbase : base ≤ w.heap.size)
    (h : ∀ v' w', Own w' base v' (xs ++ ys) → w.grownBy w' v.ownBlock → (v'.ownBlock = v.ownBlock ∨ v'.ownBlock = some w.heap.size) → wpList Tryz.prog ops Q rest (a.put o.dst v') w') : wpList Tryz.prog ops Q (o :: rest) a w := by
  refine wpList_step fun K hK => ?_
  rw [if_pos hw]
  obtain ⟨v', w', hr, h2, h3, h4⟩ := run_append_sl o.type hown hsl hb hbase
  unfold Oper.wp execOp
  simp only [ho, resolve, invoke, builtin, Sem.run_bind, Sem.run_pure, Result.andThen_ok, List.map_toArray, List.map_cons, List.map_nil, hs, hx, hr]
  exact hK _ _ (h v' w' h2 h3 h4)
theorem own_nil (w : World) (base : Nat) : Own w base (.slice none 0 0) [] := World.ownsRow_nil w base 5 1
/-- what is owned reads as it is -/
theorem Own.sl {w : World} {base : Nat} {v : Value} {xs : List Nat} (h : Own w base v xs) (hz : ∀ z ∈ xs, z < 256) : Sl w v xs := by
  rcases h.2 with ⟨rfl, h0⟩ | ⟨g, cap, cur, rfl, hb, hg, hnc, hcm, hcs, ht⟩
  · obtain rfl : xs = [] := List.eq_nil_of_length_eq_zero h0
    exact ⟨none, 0, rfl, by simp, by simp [maxLen], by simp, fun _ => rfl, fun i hi => by simp at hi⟩
  · refine ⟨some ⟨g, 0, none⟩, cap, rfl, hnc, hcm, hz, by simp, fun i hi => ⟨g, 0, rfl, ?_⟩⟩
    have := h.cells (g := g) rfl i _ (bvs_get xs i hi)
    rwa [Addr.add_lit] at this
theorem Own.kept {w w' : World} {base : Nat} {v : Value} {xs : List Nat} {row : Option Nat} (h : Own w base v xs) (hg : w.grownBy w' row) (hne : v.ownBlock = none ∨ v.ownBlock ≠ row) : Own w' base v xs := World.ownsRow.kept h hg hne
/-- its block, where it has one, is base or above and lies in the heap -/
theorem Own.lt {w : World} {base : Nat} {v : Value} {xs : List Nat} (h : Own w base v xs) : ∀ k, v.ownBlock = some k → base ≤ k ∧ k < w.heap.size := World.ownsRow.lt h
theorem Own.below {w w' : World} {base : Nat} {v : Value} {xs : List Nat} (h : Own w base v xs) (hb : Below w.heap.size w w') : Own w' base v xs :=
  h.kept (row := none) ⟨hb.os, hb.tape, hb.output, hb.size, fun k hk _ => hb.block k hk⟩ (by cases hv : v.ownBlock <;> simp)
theorem Own.form {w : World} {base : Nat} {v : Value} {xs : List Nat} (h : Own w base v xs) (hp : 0 < xs.length) : ∃ g cap, v = .slice (some ⟨g, 0, none⟩) xs.length cap ∧ base ≤ g ∧ g < w.heap.size ∧ xs.length ≤ cap ∧ cap ≤ maxLen := by
  rcases h.2 with ⟨rfl, h0⟩ | ⟨g, cap, cur, rfl, hb, hg, hnc, hcm, hcs, ht⟩
  · omega
  · exact ⟨g, cap, rfl, hb, (Array.getElem?_eq_some_iff.1 hg).1, hnc, hcm⟩
theorem Own.len {w : World} {base g n cap : Nat} {xs : List Nat} (h : Own w base (.slice (some ⟨g, 0, none⟩) n cap) xs) : n = xs.length := by
  rcases h.2 with ⟨hv, _⟩ | ⟨g', cap', cur, hv, _⟩
  · cases hv
  · cases hv
    rfl
theorem Own.cell {w : World} {base g n cap : Nat} {xs : List Nat} (h : Own w base (.slice (some ⟨g, 0, none⟩) n cap) xs) (i : Nat) (hi : i < xs.length) : w.cell? ⟨g, i, none⟩ = some (.int .u8 ((xs.getD i 0 : Nat) : Int)) := by
  have := h.cells (g := g) rfl i _ (bvs_get xs i hi)
  rwa [Addr.add_lit, Nat.zero_add] at this
theorem Own.thawed {w : World} {base g cap n : Nat} {xs : List Nat} (h : Own w base (.slice (some ⟨g, 0, none⟩) n cap) xs) (i : Nat) : w.frozen? ⟨g, i, none⟩ = false := by
  rcases h.2 with ⟨hv, _⟩ | ⟨g', cap', cur, hv, _, hg, _⟩
  · cases hv
  · cases hv
    simp [World.frozen?, hg]
theorem Own.set {w : World} {base g n cap : Nat} {xs : List Nat} (h : Own w base (.slice (some ⟨g, 0, none⟩) n cap) xs) (i u : Nat) :
    Own (w.setCell ⟨g, i, none⟩ (.int .u8 ((u : Nat) : Int))) base (.slice (some ⟨g, 0, none⟩) n cap) (xs.set i u) := by
  obtain rfl := h.len
  have e : bvs (xs.set i u) = (bvs xs).set i (.int .u8 ((u : Nat) : Int)) := by simp [bvs, List.map_set]
  rcases h.2 with ⟨hv, _⟩ | ⟨g', cap', cur, hv, hb, hg, hnc, hcm, hcs, ht⟩
  · cases hv
  · cases hv
    refine ⟨by rw [bvs_length]; omega, .inr ⟨g, cap, cur.setIfInBounds i (.int .u8 ((u : Nat) : Int)), by rw [List.length_set], hb, ?_, by simpa using hnc, hcm, by simpa using hcs, ?_⟩⟩
    · simp only [World.setCell, Array.getElem?_modify]
      rw [if_pos trivial, hg]
      simp
    · rw [e, ← ht, Array.toList_setIfInBounds, List.length_set, List.take_set]
theorem Own.other {w : World} {base : Nat} {v : Value} {xs : List Nat} (h : Own w base v xs) (b i : Nat) (u : Value) (hb : v.ownBlock ≠ some b) : Own (w.setCell ⟨b, i, none⟩ u) base v xs :=
  h.kept (row := some b) ⟨rfl, rfl, rfl, by simp [World.setCell], fun k _ hk => Below.heap_setCell _ _ _ _ (by simpa using hk)⟩ (.inr hb)
theorem Row.other {w : World} {g : Nat} {L : List Nat} (h : Row w g L) (b i : Nat) (u : Value) (hb : g ≠ b) : Row (w.setCell ⟨b, i, none⟩ u) g L :=
  h.kept (Below.heap_setCell _ _ _ _ hb)
theorem Row.grown {w w' : World} {g : Nat} {L : List Nat} {row : Option Nat} (h : Row w g L) (hg : w.grownBy w' row) (hne : some g ≠ row) : Row w' g L := h.kept (hg.block g h.lt hne)
theorem below_grown {B : Nat} {w w' : World} {row : Option Nat} (hg : w.grownBy w' row) (hB : B ≤ w.heap.size) (hr : ∀ k, row = some k → B ≤ k) : Below B w w' := (Below.refl _ _).grown hg hB hr
structure Keeps (S : Nat → Prop) (w w' : World) : Prop where
  os : w'.os = w.os
  tape : w'.tape = w.tape
  output : w'.output = w.output
  size : w.heap.size ≤ w'.heap.size
  block : ∀ k, k < w.heap.size → ¬ S k → w'.heap[k]? = w.heap[k]?
theorem Keeps.refl (S : Nat → Prop) (w : World) : Keeps S w w := ⟨rfl, rfl, rfl, Nat.le_refl _, fun _ _ _ => rfl⟩
theorem Keeps.trans {S S' : Nat → Prop} {a b c : World} (h : Keeps S a b) (k : Keeps S' b c) (hS : ∀ i, i < a.heap.size → S' i → S i) : Keeps S a c :=
  ⟨k.os.trans h.os, k.tape.trans h.tape, k.output.trans h.output, Nat.le_trans h.size k.size, fun i hi hn => (k.block i (Nat.lt_of_lt_of_le hi h.size) (fun hs => hn (hS i hi hs))).trans (h.block i hi hn)⟩
theorem Keeps.mono {S S' : Nat → Prop} {a b : World} (h : Keeps S a b) (hS : ∀ i, i < a.heap.size → S i → S' i) : Keeps S' a b :=
  ⟨h.os, h.tape, h.output, h.size, fun i hi hn => h.block i hi (fun hs => hn (hS i hi hs))⟩
theorem Keeps.of_below {S : Nat → Prop} {w w' : World} (h : Below w.heap.size w w') : Keeps S w w' := ⟨h.os, h.tape, h.output, h.size, fun i hi _ => h.block i hi⟩
theorem Keeps.of_grown {w w' : World} {row : Option Nat} (h : w.grownBy w' row) : Keeps (fun k => row = some k) w w' := ⟨h.os, h.tape, h.output, h.size, fun i hi hn => h.block i hi (fun e => hn e.symm)⟩
theorem Keeps.below {S : Nat → Prop} {B : Nat} {w w' : World} (h : Keeps S w w') (hB : B ≤ w.heap.size) (hS : ∀ i, i < w.heap.size → S i → B ≤ i) : Below B w w' :=
  ⟨h.os, h.tape, h.output, h.size, fun i hi => h.block i (by omega) (fun hs => by have := hS i (by omega) hs; omega)⟩
theorem Keeps.setCell (w : World) (b i : Nat) (v : Value) : Keeps (fun k => k = b) w (w.setCell ⟨b, i, none⟩ v) :=
  ⟨rfl, rfl, rfl, by simp [World.setCell], fun k _ hk => Below.heap_setCell _ _ _ _ hk⟩
theorem Keeps.alloc {S : Nat → Prop} (w : World) (o : Obj) : Keeps S w (w.alloc o) := ⟨rfl, rfl, rfl, by simp, fun k hk _ => Below.heap_alloc w o k hk⟩
theorem Row.keeps {S : Nat → Prop} {w w' : World} {g : Nat} {L : List Nat} (h : Row w g L) (hk : Keeps S w w') (hn : ¬ S g) : Row w' g L := h.kept (hk.block g h.lt hn)
theorem Own.keeps {S : Nat → Prop} {w w' : World} {base : Nat} {v : Value} {xs : List Nat} (h : Own w base v xs) (hk : Keeps S w w') (hn : ∀ k, v.ownBlock = some k → ¬ S k) : Own w' base v xs := by
  refine ⟨h.1, ?_⟩
  rcases h.2 with hv | ⟨g, cap, cur, rfl, hb, hgg, rest⟩
  · exact .inl hv
  · refine .inr ⟨g, cap, cur, rfl, hb, ?_, rest⟩
    rw [hk.block g (Array.getElem?_eq_some_iff.1 hgg).1 (hn g rfl)]
    exact hgg
theorem Sl.keeps {S : Nat → Prop} {w w' : World} {v : Value} {zs : List Nat} (h : Sl w v zs) (hk : Keeps S w w') (hn : ∀ k, v.ownBlock = some k → ¬ S k) : Sl w' v zs := by
  obtain ⟨ao, cap, rfl, h1, h2, h3, h4, h5⟩ := h
  refine ⟨ao, cap, rfl, h1, h2, h3, h4, fun i hi => ?_⟩
  obtain ⟨b, o, e, hc⟩ := h5 i hi
  refine ⟨b, o, e, ?_⟩
  rw [World.cell?_of_block (w := w) (a := ⟨b, o + i, none⟩) (hk.block b (World.block_lt_of_cell? w _ hc) (hn b (by rw [e]; rfl)))]
  exact hc

/-- where the new row of a Writer lies: where the old one lay, or in a new block -/
def At (w : World) (v v' : Value) : Prop := v'.ownBlock = v.ownBlock ∨ ∃ k, v'.ownBlock = some k ∧ w.heap.size ≤ k
theorem mod256 (r : Nat) : ((r % 256 : Nat) : Int) = (r : Int) % 256 := by omega
theorem div256 (r : Nat) : ((r / 256 : Nat) : Int) = (r : Int) / 256 := by omega
theorem row_one (w : World) (r : Nat) : Row (w.alloc (.cells #[.int .u8 ((r : Int) % 256)] 5)) w.heap.size [r % 256] := by
  rw [Row, show (w.alloc (.cells #[.int .u8 ((r : Int) % 256)] 5)).heap[w.heap.size]? = _ from heap_alloc_new w _]
  rw [← mod256]
  rfl
theorem sl_one (w : World) (r : Nat) : Sl (w.alloc (.cells #[.int .u8 ((r : Int) % 256)] 5)) (.slice (some ⟨w.heap.size, 0, none⟩) 1 1) [r % 256] :=
  (row_one w r).sl (by simp; omega) 0 1 1 (by simp) (by omega) (by simp [maxLen])
theorem At.refl (w : World) (v : Value) : At w v v := .inl rfl
theorem At.step {w w1 : World} {v v1 v2 : Value} (h : At w v v1) (hs : w.heap.size ≤ w1.heap.size) (h2 : v2.ownBlock = v1.ownBlock ∨ v2.ownBlock = some w1.heap.size) : At w v v2 := by
  rcases h2 with h2 | h2
  · rcases h with h | ⟨k, hk, hle⟩
    · exact .inl (h2.trans h)
    · exact .inr ⟨k, h2.trans hk, hle⟩
  · exact .inr ⟨_, h2, hs⟩
/-- what is written through At v lies in v's row or is new -/
theorem At.foot {w : World} {v v1 : Value} (h : At w v v1) : ∀ k, k < w.heap.size → v1.ownBlock = some k → v.ownBlock = some k := by
  intro k hk e
  rcases h with h | ⟨j, hj, hle⟩
  · rw [← h, e]
  · rw [hj] at e
    cases e
    omega

set_option maxHeartbeats 400000 in
theorem greatest_u64 (w : World) : Calls Tryz.prog 98 #[] w fun e w' => e = .returned (.int .u64 18446744073709551615) ∧ w' = w := by
  go_enter Tryz.func98, Tryz.ntmps98
  go_wp2
  go_ret
  exact ⟨congrArg (fun z => Ending.returned (.int .u64 z)) (by decide), rfl⟩
set_option maxHeartbeats 1000000 in
theorem size_u64 (w : World) : Calls Tryz.prog 85 #[] w fun e w' => e = .returned (.int .i64 8) ∧ w' = w := by
  go_enter Tryz.func85, Tryz.ntmps85
  go_wp2_with (go_at_call 98; refine (greatest_u64 _).mono ?_; rintro e w' ⟨rfl, rfl⟩)
  go_loop [1, 2] (fun n r => (n = .int .i64 0 ∧ r = .int .u64 18446744073709551615) ∨ (n = .int .i64 1 ∧ r = .int .u64 72057594037927935) ∨ (n = .int .i64 2 ∧ r = .int .u64 281474976710655) ∨ (n = .int .i64 3 ∧ r = .int .u64 1099511627775) ∨ (n = .int .i64 4 ∧ r = .int .u64 4294967295) ∨ (n = .int .i64 5 ∧ r = .int .u64 16777215) ∨ (n = .int .i64 6 ∧ r = .int .u64 65535) ∨ (n = .int .i64 7 ∧ r = .int .u64 255) ∨ (n = .int .i64 8 ∧ r = .int .u64 0)) (fun n _ => 8 - (intOf n).toNat)
  case atStart => exact .inl ⟨rfl, rfl⟩
  case round =>
    rcases hrel with ⟨rfl, rfl⟩ | ⟨rfl, rfl⟩ | ⟨rfl, rfl⟩ | ⟨rfl, rfl⟩ | ⟨rfl, rfl⟩ | ⟨rfl, rfl⟩ | ⟨rfl, rfl⟩ | ⟨rfl, rfl⟩ | ⟨rfl, rfl⟩
    · go_wp2
      go_round
      case rel => exact .inr (.inl ⟨rfl, rfl⟩)
      case measure => simp [intOf]
    · go_wp2
      go_round
      case rel => exact .inr (.inr (.inl ⟨rfl, rfl⟩))
      case measure => simp [intOf]
    · go_wp2
      go_round
      case rel => exact .inr (.inr (.inr (.inl ⟨rfl, rfl⟩)))
      case measure => simp [intOf]
    · go_wp2
      go_round
      case rel => exact .inr (.inr (.inr (.inr (.inl ⟨rfl, rfl⟩))))
      case measure => simp [intOf]
    · go_wp2
      go_round
      case rel => exact .inr (.inr (.inr (.inr (.inr (.inl ⟨rfl, rfl⟩)))))
      case measure => simp [intOf]
    · go_wp2
      go_round
      case rel => exact .inr (.inr (.inr (.inr (.inr (.inr (.inl ⟨rfl, rfl⟩))))))
      case measure => simp [intOf]
    · go_wp2
      go_round
      case rel => exact .inr (.inr (.inr (.inr (.inr (.inr (.inr (.inl ⟨rfl, rfl⟩)))))))
      case measure => simp [intOf]
    · go_wp2
      go_round
      case rel => exact .inr (.inr (.inr (.inr (.inr (.inr (.inr (.inr (⟨rfl, rfl⟩))))))))
      case measure => simp [intOf]
    · go_wp2
      go_ret
      exact ⟨rfl, rfl⟩
set_option maxHeartbeats 1000000 in
theorem extend_u64 {v : Value} {xs : List Nat} {n base : Nat} {w : World} (ho : Own w base v xs) (hn : n ≤ 18446744073709551615) (hl : xs.length ≤ 549755813888) (hb : base ≤ w.heap.size) :
    Calls Tryz.prog 89 #[v, .int .u64 n] w fun e w' => ∃ v', e = .returned v' ∧ Own w' base v' (xs ++ Pl.le 8 n) ∧ Keeps (fun k => v.ownBlock = some k) w w' ∧ At w v v' := by
  have := hn
  have HO0 : Hid (Own w base v (xs ++ Pl.le 0 n)) := by rw [Pl.le, List.append_nil]; exact ho
  clear ho
  go_enter Tryz.func89, Tryz.ntmps89
  go_wp2_with (go_at_call 85; refine (size_u64 _).mono ?_; rintro e w' ⟨rfl, hw⟩; have hw := hw.symm; subst hw)
  go_loopw [0, 5, 8] (fun b r i wr => ∃ k : Nat, k ≤ 8 ∧ i = .int .i64 (k : Int) ∧ r = .int .u64 ((Pl.shr k n : Nat) : Int) ∧ Hid (Own wr base b (xs ++ Pl.le k n)) ∧ Hid (Keeps (fun k => v.ownBlock = some k) w wr) ∧ Hid (At w v b)) (fun _ _ i _ => 8 - (intOf i).toNat)
  case atStart => exact ⟨0, by omega, rfl, rfl, HO0, Keeps.refl _ _, At.refl _ _⟩
  case round =>
    obtain ⟨k, hk, rfl, rfl, HO, HK, HA⟩ := hrel
    clear HO0
    have HS : Hid (Pl.shr (k + 1) n = Pl.shr k n / 256) := (rfl : _ = _)
    have HL : Hid (Pl.le (k + 1) n = Pl.le k n ++ [Pl.shr k n % 256]) := Pl.le_snoc k n
    have HLen : Hid ((xs ++ Pl.le k n).length = xs.length + k) := by show _ = _; rw [List.length_append, Pl.le_length]
    by_cases hlt : k < 8
    · generalize Pl.shr k n = r at *
      have HSl : Hid (Sl (wr.alloc (.cells #[.int .u8 ((r : Int) % 256)] 5)) (.slice (some ⟨wr.heap.size, 0, none⟩) 1 1) [r % 256]) := sl_one wr r
      have HOA : Hid (Own (wr.alloc (.cells #[.int .u8 ((r : Int) % 256)] 5)) base u0 (xs ++ Pl.le k n)) := HO.out.below ((Below.refl _ _).alloc (Nat.le_refl _) _)
      have HBase : Hid (base ≤ wr.heap.size) := Nat.le_trans hb HK.out.size
      go_wp2_with (at_builtin; refine wpList_append_sl (v := u0) (.tmp 10) (.tmp 13) (by rfl) rfl rfl HOA.out rfl HSl.out (by rw [HLen.out]; simp only [List.length_cons, List.length_nil]; omega) (by simp; exact Nat.le_succ_of_le HBase.out) ?_; intro v2 w2 h2 g2 l2; have HO2 : Hid (Own w2 base v2 (xs ++ Pl.le k n ++ [r % 256])) := h2; have HG2 : Hid ((wr.alloc (.cells #[.int .u8 ((r : Int) % 256)] 5)).grownBy w2 u0.ownBlock) := g2; have HL2 : Hid (v2.ownBlock = u0.ownBlock ∨ v2.ownBlock = some (wr.alloc (.cells #[.int .u8 ((r : Int) % 256)] 5)).heap.size) := l2; clear h2 g2 l2)
      go_roundw
      case rel =>
        have hk1 : Keeps (fun k => v.ownBlock = some k) w (wr.alloc (.cells #[.int .u8 ((r : Int) % 256)] 5)) := HK.out.trans (Keeps.alloc (S := fun _ => False) wr _) (fun _ _ h => h.elim)
        refine ⟨k + 1, by omega, by go_num, by rw [HS.out, div256], ?_, hk1.trans (Keeps.of_grown HG2.out) (fun j hj e => HA.out.foot j hj e), HA.out.step hk1.size HL2.out⟩
        have h := HO2.out
        rw [List.append_assoc, ← HL.out] at h
        exact h
      case measure => simp [intOf]; omega
    · have HE : Hid (k = 8) := (by omega : k = 8)
      go_wp2
      go_ret
      have h := HO.out
      rw [HE.out] at h
      exact ⟨_, rfl, h, HK.out, HA.out⟩

theorem Keeps.drew {S : Nat → Prop} {w w' : World} (h : Keeps S w w') : Keeps S w w'.drew := ⟨h.os, h.tape, h.output, h.size, h.block⟩
theorem or_byte (s z : Nat) (hs : s < 72057594037927936) (hz : z < 256) : bits .or .u64 ((s : Int) * 256) (z : Int) = ((z + 256 * s : Nat) : Int) := by
  have h := u64_or_nat (s * 256) z (by omega) (by omega)
  rw [nat_join 8 (s * 256) z (by simp) hz] at h
  rw [Int.natCast_mul] at h
  rw [show z + 256 * s = s * 256 + z from by omega]
  exact h

set_option maxHeartbeats 1000000 in
theorem get_u64_yes {zs : List Nat} {v : Value} {w : World} (hv : Sl w v zs) (hl : 8 ≤ zs.length) :
    Calls Tryz.prog 48 #[v] w fun e w' => e = .returned (.tuple #[.int .u64 (Pl.num 8 zs : Nat), .bool true]) ∧ w' = w := by
  obtain ⟨b, o, cap, rfl, h1, h2, h3, h4⟩ := hv.pos (by omega)
  have HC : Hid (∀ i, i < zs.length → w.cell? ⟨b, o + i, none⟩ = some (.int .u8 (zs.getD i 0 : Nat))) := h4
  have HZ : Hid (∀ z ∈ zs, z < 256) := h3
  unfold maxLen at h2
  clear h3 h4
  go_enter Tryz.func48, Tryz.ntmps48
  go_wp2_with (go_at_call 85; refine (size_u64 _).mono ?_; rintro e w' ⟨rfl, hw⟩; have hw := hw.symm; subst hw)
  go_loop [5, 6] (fun s i => ∃ j : Nat, j ≤ 8 ∧ i = .int .i64 ((j : Int) - 1) ∧ s = .int .u64 ((Pl.acc zs j (8 - j) : Nat) : Int)) (fun _ i => (intOf i + 1).toNat)
  case atStart => exact ⟨8, by omega, rfl, rfl⟩
  case round =>
    obtain ⟨j, hj, rfl, rfl⟩ := hrel
    rcases j with _ | k
    · have HE : Hid (Pl.acc zs 0 (8 - 0) = Pl.num 8 zs) := (rfl : _ = _)
      have hb : Pl.acc zs 0 (8 - 0) < 256 ^ 8 := Pl.acc_lt HZ.out 0 8
      generalize Pl.acc zs 0 (8 - 0) = s at *
      have hb2 : s ≤ 18446744073709551615 := by simp at hb; omega
      clear hb
      go_wp2
      go_ret2
      exact ⟨by rw [← HE.out]; rfl, rfl⟩
    · have hck := HC.out k (by omega)
      have hz := Pl.mem_getD (k := k) HZ.out
      have HA : Hid (Pl.acc zs k (8 - k) = zs.getD k 0 + 256 * Pl.acc zs (k + 1) (8 - (k + 1))) := by
        show _ = _
        rw [show 8 - k = (8 - (k + 1)) + 1 from by omega]
        rfl
      have hs0 := Pl.acc_lt HZ.out (k + 1) (8 - (k + 1))
      have hs : Pl.acc zs (k + 1) (8 - (k + 1)) < 72057594037927936 := Nat.lt_of_lt_of_le hs0 (Nat.le_trans (Nat.pow_le_pow_right (by decide) (show 8 - (k + 1) ≤ 7 by omega)) (by decide))
      clear hs0
      have hor := or_byte _ _ hs hz
      have HN := HA.out
      generalize Pl.acc zs (k + 1) (8 - (k + 1)) = s at *
      generalize zs.getD k 0 = z at *
      generalize z + 256 * s = t at *
      clear HN
      go_wp2
      go_round
      case rel => exact ⟨k, by omega, by go_num, by rw [HA.out]⟩
      case measure => simp [intOf]
end Go.Proofs.YtddgoncbdlhhhaaGreat
/- The bytes of a machine as a function of the address; pages; the map of pages in memory. Own work. -/
namespace Go.Proofs.YtddgoncbdlhhhaaGreat
open Go.RowKit Go.Maps
/-! ### plain -/
def pageOf (M : Nat → Nat) (k : Nat) : List Nat := (List.range 4096).map fun i => M (k * 4096 + i)
def isZ (M : Nat → Nat) (k : Nat) : Prop := ∀ i, i < 4096 → M (k * 4096 + i) = 0
def putAt (M : Nat → Nat) (a : Nat) (zs : List Nat) : Nat → Nat := fun p => if a ≤ p ∧ p < a + zs.length then zs.getD (p - a) 0 else M p
def bytesAt (M : Nat → Nat) (a n : Nat) : List Nat := (List.range n).map fun i => M (a + i)
theorem pageOf_length (M : Nat → Nat) (k : Nat) : (pageOf M k).length = 4096 := by simp [pageOf]
theorem bytesAt_length (M : Nat → Nat) (a n : Nat) : (bytesAt M a n).length = n := by simp [bytesAt]
theorem pageOf_get (M : Nat → Nat) (k i : Nat) (h : i < 4096) : (pageOf M k)[i]? = some (M (k * 4096 + i)) := by
  rw [pageOf, List.getElem?_map, List.getElem?_range h]; rfl
theorem bytesAt_get (M : Nat → Nat) (a n i : Nat) (h : i < n) : (bytesAt M a n)[i]? = some (M (a + i)) := by
  rw [bytesAt, List.getElem?_map, List.getElem?_range h]; rfl
theorem page_ext {L : List Nat} {M : Nat → Nat} {k : Nat} (hl : L.length = 4096) (h : ∀ i, i < 4096 → L[i]? = some (M (k * 4096 + i))) : L = pageOf M k := by
  refine List.ext_getElem? fun i => ?_
  by_cases hi : i < 4096
  · rw [h i hi, pageOf_get M k i hi]
  · rw [List.getElem?_eq_none (by omega), List.getElem?_eq_none (by rw [pageOf_length]; omega)]
theorem bytesAt_ext {L : List Nat} {M : Nat → Nat} {a n : Nat} (hl : L.length = n) (h : ∀ i, i < n → L[i]? = some (M (a + i))) : L = bytesAt M a n := by
  refine List.ext_getElem? fun i => ?_
  by_cases hi : i < n
  · rw [h i hi, bytesAt_get M a n i hi]
  · rw [List.getElem?_eq_none (by omega), List.getElem?_eq_none (by rw [bytesAt_length]; omega)]
theorem putAt_in (M : Nat → Nat) (a : Nat) (zs : List Nat) (i : Nat) (h : i < zs.length) : putAt M a zs (a + i) = zs.getD i 0 := by
  unfold putAt; rw [if_pos (by omega), Nat.add_sub_cancel_left]
theorem putAt_out (M : Nat → Nat) (a : Nat) (zs : List Nat) (p : Nat) (h : p < a ∨ a + zs.length ≤ p) : putAt M a zs p = M p := by
  unfold putAt; rw [if_neg (by omega)]
theorem putAt_nil (M : Nat → Nat) (a : Nat) : putAt M a [] = M := by
  funext p; exact putAt_out M a [] p (by simp; omega)
theorem putAt_append (M : Nat → Nat) (a : Nat) (xs ys : List Nat) : putAt (putAt M a xs) (a + xs.length) ys = putAt M a (xs ++ ys) := by
  funext p
  by_cases h1 : a + xs.length ≤ p ∧ p < a + xs.length + ys.length
  · rw [show putAt (putAt M a xs) (a + xs.length) ys p = ys.getD (p - (a + xs.length)) 0 from if_pos h1]
    rw [show putAt M a (xs ++ ys) p = (xs ++ ys).getD (p - a) 0 from if_pos (by simp; omega)]
    simp only [List.getD_eq_getElem?_getD]
    rw [List.getElem?_append_right (by omega)]
    congr 2
    omega
  · rw [show putAt (putAt M a xs) (a + xs.length) ys p = putAt M a xs p from if_neg h1]
    by_cases h2 : a ≤ p ∧ p < a + xs.length
    · rw [show putAt M a xs p = xs.getD (p - a) 0 from if_pos h2, show putAt M a (xs ++ ys) p = (xs ++ ys).getD (p - a) 0 from if_pos (by simp; omega)]
      simp only [List.getD_eq_getElem?_getD]
      rw [List.getElem?_append_left (by omega)]
    · rw [show putAt M a xs p = M p from if_neg h2, show putAt M a (xs ++ ys) p = M p from if_neg (by simp; omega)]
theorem putAt_small {M : Nat → Nat} {a : Nat} {zs : List Nat} (hM : ∀ p, M p < 256) (hz : ∀ z ∈ zs, z < 256) (p : Nat) : putAt M a zs p < 256 := by
  unfold putAt
  split
  · exact Pl.mem_getD hz
  · exact hM p
theorem page_put_same (M : Nat → Nat) (k o : Nat) (zs : List Nat) (h : o + zs.length ≤ 4096) : (pageOf M k).take o ++ zs ++ (pageOf M k).drop (o + zs.length) = pageOf (putAt M (k * 4096 + o) zs) k := by
  have hl := pageOf_length M k
  refine page_ext (by simp [hl]; omega) fun i hi => ?_
  by_cases h1 : i < o
  · rw [List.append_assoc, List.getElem?_append_left (by simp [hl]; omega), List.getElem?_take_of_lt h1, pageOf_get M k i hi, putAt_out _ _ _ _ (by omega)]
  · by_cases h2 : i < o + zs.length
    · rw [List.getElem?_append_left (by simp [hl]; omega), List.getElem?_append_right (by simp [hl]; omega)]
      rw [show i - ((pageOf M k).take o).length = i - o by simp [hl]; omega]
      rw [show k * 4096 + i = k * 4096 + o + (i - o) by omega, putAt_in _ _ _ _ (by omega), List.getD_eq_getElem?_getD, List.getElem?_eq_getElem (by omega)]
      rfl
    · rw [List.getElem?_append_right (by simp [hl]; omega), List.getElem?_drop]
      rw [show o + zs.length + (i - ((pageOf M k).take o ++ zs).length) = i by simp [hl]; omega]
      rw [pageOf_get M k i hi, putAt_out _ _ _ _ (by omega)]
theorem put_other (M : Nat → Nat) {k k' o : Nat} {zs : List Nat} (h : o + zs.length ≤ 4096) (hk : k' ≠ k) (i : Nat) (hi : i < 4096) : putAt M (k * 4096 + o) zs (k' * 4096 + i) = M (k' * 4096 + i) := by
  refine putAt_out _ _ _ _ ?_
  rcases Nat.lt_or_gt_of_ne hk with h1 | h1 <;> omega
theorem page_congr {M M' : Nat → Nat} {k : Nat} (h : ∀ i, i < 4096 → M' (k * 4096 + i) = M (k * 4096 + i)) : pageOf M' k = pageOf M k :=
  page_ext (pageOf_length _ _) fun i hi => by rw [pageOf_get _ _ _ hi, h i hi]
theorem page_put_other (M : Nat → Nat) {k k' o : Nat} {zs : List Nat} (h : o + zs.length ≤ 4096) (hk : k' ≠ k) : pageOf (putAt M (k * 4096 + o) zs) k' = pageOf M k' := page_congr (put_other M h hk)
theorem isZ_congr {M M' : Nat → Nat} {k : Nat} (h : ∀ i, i < 4096 → M' (k * 4096 + i) = M (k * 4096 + i)) (hz : isZ M k) : isZ M' k := fun i hi => (h i hi).trans (hz i hi)
/-- how many pages hold a byte that is not 0 -/
def nz (M : Nat → Nat) (k : Nat) : Bool := (pageOf M k).any fun z => z != 0
theorem nz_false {M : Nat → Nat} {k : Nat} : nz M k = false ↔ isZ M k := by
  unfold nz
  rw [List.any_eq_false]
  constructor
  · intro h i hi
    have := h _ (List.mem_of_getElem? (pageOf_get M k i hi))
    simpa using this
  · intro h z hz
    obtain ⟨i, hi, e⟩ := List.getElem_of_mem hz
    rw [pageOf_length] at hi
    have := pageOf_get M k i hi
    rw [List.getElem?_eq_getElem (by rw [pageOf_length]; exact hi), e, h i hi] at this
    cases this
    decide
theorem nz_true {M : Nat → Nat} {k : Nat} (h : ¬ isZ M k) : nz M k = true := by
  cases e : nz M k with
  | true => rfl
  | false => exact absurd (nz_false.1 e) h
def cntN (M : Nat → Nat) : Nat → Nat
  | 0 => 0
  | n + 1 => cntN M n + if nz M n then 1 else 0
theorem cntN_congr {M M' : Nat → Nat} (n : Nat) (h : ∀ k, k < n → nz M' k = nz M k) : cntN M' n = cntN M n := by
  induction n with
  | zero => rfl
  | succ n ih => unfold cntN; rw [ih (fun k hk => h k (by omega)), h n (by omega)]
theorem cntN_one {M M' : Nat → Nat} {k : Nat} (n : Nat) (hk : k < n) (h : ∀ j, j ≠ k → nz M' j = nz M j) : cntN M' n + (if nz M k then 1 else 0) = cntN M n + (if nz M' k then 1 else 0) := by
  induction n with
  | zero => omega
  | succ n ih =>
    unfold cntN
    by_cases e : n = k
    · subst e
      rw [cntN_congr n (fun j hj => h j (by omega))]
      omega
    · have := ih (by omega)
      rw [h n e]
      omega
theorem cntN_le (M : Nat → Nat) (n : Nat) : cntN M n ≤ n := by
  induction n with
  | zero => exact Nat.le_refl _
  | succ n ih => unfold cntN; split <;> omega
def pagesN : Nat := 1048576
def cnt (M : Nat → Nat) : Nat := cntN M pagesN
theorem cnt_one {M M' : Nat → Nat} {k : Nat} (hk : k < pagesN) (h : ∀ j, j ≠ k → nz M' j = nz M j) : cnt M' + (if nz M k then 1 else 0) = cnt M + (if nz M' k then 1 else 0) := cntN_one pagesN hk h
theorem cnt_le (M : Nat → Nat) : cnt M ≤ pagesN := cntN_le M pagesN
theorem cntN_zero (n : Nat) : cntN (fun _ => 0) n = 0 := by
  induction n with
  | zero => rfl
  | succ n ih => unfold cntN; rw [ih, nz_false.2 (fun _ _ => rfl)]; rfl
theorem cnt_zero : cnt (fun _ => 0) = 0 := cntN_zero pagesN

/-! ### the map of pages -/
def upd (T : Nat → Option Nat) (k : Nat) (x : Option Nat) : Nat → Option Nat := fun j => if j = k then x else T j
theorem upd_same (T : Nat → Option Nat) (k : Nat) (x : Option Nat) : upd T k x k = x := if_pos rfl
theorem upd_other (T : Nat → Option Nat) {k j : Nat} (x : Option Nat) (h : j ≠ k) : upd T k x j = T j := if_neg h
/-- a pointer to a page's block, read as the block's number -/
def ptrE : Value → Option (DataW Unit × List MemPlace)
  | .pointer none => some (.nil, [])
  | .pointer (some ⟨g, 0, none⟩) => some (.lit (.int .u64 (g : Int)), [])
  | _ => none
theorem ptrE_mk (g : Nat) : ptrE (.pointer (some ⟨g, 0, none⟩)) = some (.lit (.int .u64 (g : Int)), []) := rfl
theorem ptrE_inv {v : Value} {g : Nat} {ps : List MemPlace} (h : ptrE v = some (.lit (.int .u64 (g : Int)), ps)) : v = .pointer (some ⟨g, 0, none⟩) := by
  unfold ptrE at h
  split at h
  · cases h
  · simp only [Option.some.injEq, Prod.mk.injEq, DataW.lit.injEq, Lit.int.injEq, true_and] at h
    have := h.1
    congr 3
    omega
  · cases h
theorem ptrE_none {v : Value} {ps : List MemPlace} (h : ptrE v = some (.nil, ps)) : v = .pointer none := by
  unfold ptrE at h
  split at h
  · rfl
  · cases h
  · cases h
theorem key_page : Keyed Tryz.prog 26 := int_keyed (q := .u64) Tryz.underlying26
theorem key_of {k : Nat} (h : k < 4503599627370496) : keyOf Tryz.prog 26 (.int .u64 (k : Int)) = some (.int .u64 (k : Int)) := keyOf_int_mk Tryz.underlying26 (WalkArith.wf_u64 ⟨by omega, by omega⟩)
theorem zero_page (w : World) : (zeroValue 152).run Tryz.prog w = .ok (.pointer none) w := by kernel_rfl
def MapT (w : World) (B : Nat) (T : Nat → Option Nat) (c : Nat) : Prop :=
  ∃ D : DataW Unit, w.ownsMap Tryz.prog 26 ptrE B c D ∧ Maps.size D = c ∧ (∀ k, k < 4503599627370496 → (T k = none → Maps.has D (.int .u64 (k : Int)) = false) ∧ ∀ g, T k = some g → Maps.has D (.int .u64 (k : Int)) = true ∧ ∀ z, D.atKey (.int .u64 (k : Int)) z = .lit (.int .u64 (g : Int))) ∧ ∀ kl, Maps.has D kl = true → ∃ k : Nat, k < 4503599627370496 ∧ kl = .int .u64 (k : Int)
theorem isKey (k : Nat) : WideAt.IsKeyLit (.int .u64 (k : Int)) := by trivial
theorem lit_ne {k j : Nat} (h : j ≠ k) : (Lit.int .u64 (j : Int)) ≠ .int .u64 (k : Int) := fun e => by
  have := (Lit.int.inj e).2
  omega
theorem World.ownsMap.tight {w : World} {B n : Nat} {D : DataW Unit} (h : w.ownsMap Tryz.prog 26 ptrE B n D) : w.ownsMap Tryz.prog 26 ptrE B (Maps.size D) D := by
  obtain ⟨es, clock, hb, F, _, rfl⟩ := h
  refine ⟨es, clock, hb, F, ?_, rfl⟩
  simp [Maps.size, length_sorted]
theorem MapT.keeps {S : Nat → Prop} {w w' : World} {B : Nat} {T : Nat → Option Nat} {c : Nat} (h : MapT w B T c) (hk : Keeps S w w') (hn : ¬ S B) : MapT w' B T c := by
  obtain ⟨D, ⟨es, clock, hb, F, hs, e⟩, h2, h3⟩ := h
  exact ⟨D, ⟨es, clock, (hk.block B (Array.getElem?_eq_some_iff.1 hb).1 hn).trans hb, F, hs, e⟩, h2, h3⟩
theorem MapT.lt {w : World} {B : Nat} {T : Nat → Option Nat} {c : Nat} (h : MapT w B T c) : B < w.heap.size := by
  obtain ⟨D, ho, _⟩ := h
  exact ho.lt
/-- block B is no row -/
theorem MapT.no_row {w : World} {B : Nat} {T : Nat → Option Nat} {c : Nat} (h : MapT w B T c) {cs : Array Value} {t : TypeId} {f : Nat × Nat} : w.heap[B]? ≠ some (.cells cs t f) := by
  obtain ⟨D, ⟨es, clock, hb, _⟩, _⟩ := h
  rw [hb]
  exact fun e => by cases e
theorem MapT.made (w : World) : MapT (w.alloc (.map #[] 0)) w.heap.size (fun _ => none) 0 :=
  ⟨.map [], World.ownsMap_made w _ _ _, rfl, fun k _ => ⟨fun _ => rfl, fun g e => by cases e⟩, fun kl e => by cases (show false = true from e)⟩
theorem MapT.look_some {w : World} {B : Nat} {T : Nat → Option Nat} {c k g : Nat} (h : MapT w B T c) (hk : T k = some g) (hb : k < 4503599627370496) :
    (Instr.lookup 106 (.map (some B)) (.int .u64 (k : Int)) true).run Tryz.prog w = .ok (.tuple #[.pointer (some ⟨g, 0, none⟩), .bool true]) w := by
  obtain ⟨D, ho, _, h3, _⟩ := h
  obtain ⟨h4, h5⟩ := (h3 k hb).2 g hk
  obtain ⟨v, ps, hr, hv⟩ := ho.look_ok key_page Tryz.underlying106 (zero_page w) (zd := .nil) (zp := []) rfl (key_of hb)
  rw [h5] at hv
  rw [ptrE_inv hv, h4] at hr
  exact hr
theorem MapT.look_none {w : World} {B : Nat} {T : Nat → Option Nat} {c k : Nat} (h : MapT w B T c) (hk : T k = none) (hb : k < 4503599627370496) :
    (Instr.lookup 106 (.map (some B)) (.int .u64 (k : Int)) true).run Tryz.prog w = .ok (.tuple #[.pointer none, .bool false]) w := by
  obtain ⟨D, ho, _, h3, _⟩ := h
  have h4 := (h3 k hb).1 hk
  obtain ⟨v, ps, hr, hv⟩ := ho.look_ok key_page Tryz.underlying106 (zero_page w) (zd := .nil) (zp := []) rfl (key_of hb)
  rw [atKey_of_not_has h4] at hv
  rw [ptrE_none hv, h4] at hr
  exact hr
theorem MapT.len {w : World} {B : Nat} {T : Nat → Option Nat} {c : Nat} (h : MapT w B T c) (ty : TypeId) : (Builtin.len_ #[106] ty #[.map (some B)]).run Tryz.prog w = .ok (.int .i64 (c : Int)) w := by
  obtain ⟨D, ho, h2, _⟩ := h
  rw [← h2]
  exact ho.len Tryz.underlying106 ty
theorem MapT.put {w : World} {B : Nat} {T : Nat → Option Nat} {c k : Nat} (h : MapT w B T c) (hk : T k = none) (hb : k < 4503599627370496) (hc : c < maxLen) (g : Nat) :
    ∃ w', (Instr.mapUpdate 106 (.map (some B)) (.int .u64 (k : Int)) (.pointer (some ⟨g, 0, none⟩))).run Tryz.prog w = .ok () w' ∧ MapT w' B (upd T k (some g)) (c + 1) ∧ w.mapTurned w' B := by
  obtain ⟨D, ho, h2, h3, h6⟩ := h
  have h4 := (h3 k hb).1 hk
  have hi := ho.isMap
  have ht := ho.tidy key_page
  obtain ⟨w', hr, ho', hm⟩ := ho.store key_page Tryz.underlying106 hc (key_of hb) (ptrE_mk g)
  refine ⟨w', hr, ⟨_, ho', ?_, fun j hj => ?_, fun kl e => ?_⟩, hm⟩
  · rw [size_put ht, h4, h2]; rfl
  · by_cases e : j = k
    · subst e
      rw [upd_same]
      exact ⟨(fun e => by cases e), (fun g' e => by cases e; exact ⟨has_put_same hi (isKey _) _, fun z => atKey_put_same hi (isKey _) _ z⟩)⟩
    · rw [upd_other _ _ e, has_put_other (lit_ne e)]
      exact ⟨(h3 j hj).1, fun g' e' => ⟨((h3 j hj).2 g' e').1, fun z => by rw [atKey_put_other (lit_ne e)]; exact ((h3 j hj).2 g' e').2 z⟩⟩
  · by_cases e' : kl = .int .u64 (k : Int)
    · exact ⟨k, hb, e'⟩
    · rw [has_put_other e'] at e
      exact h6 kl e
theorem MapT.del {w : World} {B : Nat} {T : Nat → Option Nat} {c k g : Nat} (h : MapT w B T (c + 1)) (hk : T k = some g) (hb : k < 4503599627370496) (ty : TypeId) :
    ∃ w', (Builtin.delete_ #[106, 26] ty #[.map (some B), .int .u64 (k : Int)]).run Tryz.prog w = .ok (.tuple #[]) w' ∧ MapT w' B (upd T k none) c ∧ w.mapTurned w' B := by
  obtain ⟨D, ho, h2, h3, h6⟩ := h
  obtain ⟨h4, h5⟩ := (h3 k hb).2 g hk
  have ht := ho.tidy key_page
  obtain ⟨w', hr, ho', hm⟩ := ho.drop key_page Tryz.underlying106 (key_of hb) ty
  have hz := size_del (k := .int .u64 (k : Int)) ht
  rw [h4, h2] at hz
  have hz' : Maps.size (D.del (.int .u64 (k : Int))) = c := by simpa using hz
  refine ⟨w', hr, ⟨_, by have := World.ownsMap.tight ho'; rwa [hz'] at this, hz', fun j hj => ?_, fun kl e => ?_⟩, hm⟩
  · by_cases e : j = k
    · subst e
      rw [upd_same]
      exact ⟨fun _ => has_del_same, (fun g' e => by cases e)⟩
    · rw [upd_other _ _ e, has_del_other (lit_ne e)]
      exact ⟨(h3 j hj).1, fun g' e' => ⟨((h3 j hj).2 g' e').1, fun z => by rw [atKey_del_other (lit_ne e)]; exact ((h3 j hj).2 g' e').2 z⟩⟩
  · by_cases e' : kl = .int .u64 (k : Int)
    · subst e'
      rw [has_del_same] at e
      cases e
    · rw [has_del_other e'] at e
      exact h6 kl e
theorem Keeps.turned {w w' : World} {B : Nat} (h : w.mapTurned w' B) : Keeps (fun j => j = B) w w' := by
  have := Keeps.of_grown h.grown
  exact this.mono fun i _ e => (Option.some.inj e).symm

/-! ### pages in memory -/
def Pg (w : World) (g : Nat) (L : List Nat) : Prop := w.heap[g]? = some (.cells (bvs L).toArray 168 (0, 0))
theorem Pg.lt {w : World} {g : Nat} {L : List Nat} (h : Pg w g L) : g < w.heap.size := (Array.getElem?_eq_some_iff.1 h).1
theorem Pg.keeps {S : Nat → Prop} {w w' : World} {g : Nat} {L : List Nat} (h : Pg w g L) (hk : Keeps S w w') (hn : ¬ S g) : Pg w' g L := (hk.block g h.lt hn).trans h
def PagesAt (w : World) (T : Nat → Option Nat) (M : Nat → Nat) : Prop :=
  (∀ k g, T k = some g → Pg w g (pageOf M k) ∧ ¬ isZ M k) ∧ (∀ k, T k = none → isZ M k) ∧ (∀ k k' g, T k = some g → T k' = some g → k = k') ∧ (∀ p, M p < 256) ∧ ∀ k, pagesN ≤ k → T k = none
def Foot (B : Nat) (T : Nat → Option Nat) (j : Nat) : Prop := j = B ∨ ∃ k, T k = some j
/-- block B is the map, T says where its pages lie, M what they hold -/
def Held (w : World) (B : Nat) (T : Nat → Option Nat) (M : Nat → Nat) : Prop := MapT w B T (cnt M) ∧ PagesAt w T M
/-- each page lies where it lay, or in a block from n on -/
def Grows (n : Nat) (T T' : Nat → Option Nat) : Prop := ∀ k g, T' k = some g → T k = some g ∨ n ≤ g
theorem Grows.refl (n : Nat) (T : Nat → Option Nat) : Grows n T T := fun _ _ h => .inl h
theorem Grows.trans {n m : Nat} {T T' T'' : Nat → Option Nat} (h : Grows n T T') (h' : Grows m T' T'') (hn : n ≤ m) : Grows n T T'' := fun k g e => by
  rcases h' k g e with h1 | h1
  · exact h k g h1
  · exact .inr (by omega)
theorem Grows.foot {n B : Nat} {T T' : Nat → Option Nat} (h : Grows n T T') {j : Nat} (hj : Foot B T' j) (hn : j < n) : Foot B T j := by
  rcases hj with rfl | ⟨k, hk⟩
  · exact .inl rfl
  · rcases h k j hk with h1 | h1
    · exact .inr ⟨k, h1⟩
    · omega
theorem PagesAt.keeps {S : Nat → Prop} {w w' : World} {T : Nat → Option Nat} {M : Nat → Nat} (h : PagesAt w T M) (hk : Keeps S w w') (hn : ∀ k g, T k = some g → ¬ S g) : PagesAt w' T M :=
  ⟨fun k g e => ⟨((h.1 k g e).1).keeps hk (hn k g e), (h.1 k g e).2⟩, h.2⟩
theorem Held.keeps {S : Nat → Prop} {w w' : World} {B : Nat} {T : Nat → Option Nat} {M : Nat → Nat} (h : Held w B T M) (hk : Keeps S w w') (hn : ∀ j, Foot B T j → ¬ S j) : Held w' B T M :=
  ⟨h.1.keeps hk (hn B (.inl rfl)), h.2.keeps hk fun k g e => hn g (.inr ⟨k, e⟩)⟩
theorem Held.foot_lt {w : World} {B : Nat} {T : Nat → Option Nat} {M : Nat → Nat} (h : Held w B T M) {j : Nat} (hj : Foot B T j) : j < w.heap.size := by
  rcases hj with rfl | ⟨k, e⟩
  · exact h.1.lt
  · exact ((h.2.1 k j e).1).lt
theorem Held.below {w w' : World} {B : Nat} {T : Nat → Option Nat} {M : Nat → Nat} (h : Held w B T M) (hb : Below w.heap.size w w') : Held w' B T M :=
  h.keeps (Keeps.of_below (S := fun _ => False) hb) fun _ _ h => h
theorem Held.apart {w : World} {B : Nat} {T : Nat → Option Nat} {M : Nat → Nat} (h : Held w B T M) {k g : Nat} (e : T k = some g) : g ≠ B := fun e' => by
  have := (h.2.1 k g e).1
  rw [e'] at this
  exact h.1.no_row this
theorem Held.low {w : World} {B : Nat} {T : Nat → Option Nat} {M : Nat → Nat} (h : Held w B T M) {k g : Nat} (e : T k = some g) : k < pagesN := by
  rcases Nat.lt_or_ge k pagesN with h1 | h1
  · exact h1
  · rw [h.2.2.2.2.2 k h1] at e; cases e
theorem Held.made (w : World) : Held (w.alloc (.map #[] 0)) w.heap.size (fun _ => none) (fun _ => 0) :=
  ⟨by rw [cnt_zero]; exact MapT.made w, fun _ _ e => (by cases e), fun _ _ _ _ => rfl, fun _ _ _ e => (by cases e), fun _ => Nat.zero_lt_succ _, fun _ _ => rfl⟩
end Go.Proofs.YtddgoncbdlhhhaaGreat
/- Laws at the operations of bus' pages: a new page, a copy into a row, a page put into the map and taken out of it. Own work. -/
namespace Go.Proofs.YtddgoncbdlhhhaaGreat
open Go.RowKit Go.Maps
theorem slice_page (w : World) (g r : Nat) (hr : r < 4096) : (Instr.sliceAt 168 (.pointer (some ⟨g, 0, none⟩)) (some (.int .u64 (r : Int))) none none).run Tryz.prog w = .ok (.slice (some ⟨g, r, none⟩) (4096 - r) (4096 - r)) w := by
  obtain ⟨i, hi, _, hz1, _⟩ := info_parts info_byte
  have hs : (sizeOf 5).run Tryz.prog w = .ok 1 w := by simp only [sizeOf, typeInfo, Sem.run_bind, run_program, Result.andThen_ok, hi, Sem.run_pure, hz1]
  have hu : Tryz.prog.underlying 168 = some (.array 4096 5) := Tryz.underlying168
  have e : (⟨g, 0, none⟩ : Addr).add (r * 1) = ⟨g, r, none⟩ := by rw [Addr.add_mid]; simp
  have hb : ∀ code, (Instr.sliceBound (.int .u64 (r : Int)) 4096 code).run Tryz.prog w = .ok r w := fun code => by
    have h1 : (0 : Int) ≤ (r : Int) ∧ (r : Int) ≤ ((4096 : Nat) : Int) := by omega
    simp only [Instr.sliceBound, asIntOf, Sem.run_bind, Sem.run_pure, Result.andThen_ok, if_pos h1, Int.toNat_natCast]
  simp only [Instr.sliceAt, Instr.sureAddr, run_underlying hu, Sem.run_bind, Result.andThen_ok, Sem.run_pure, Instr.sliceBounds, hb, hs]
  rw [if_neg (by omega), e]
def zeros4 : List Nat := List.replicate 4096 0
theorem zeros4_page : zeros4 = pageOf (fun _ => 0) 0 := page_ext List.length_replicate fun i hi => by rw [zeros4, List.getElem?_replicate, if_pos hi]
theorem info_page : (Tryz.prog.info? 168).map (fun i => (i.zero, i.size)) = some (some (.agg (bvs zeros4).toArray), 4096) := by kernel_rfl
theorem run_new_page (w : World) : (Instr.alloc 168 true (.tuple #[])).run Tryz.prog w = .ok (.pointer (some ⟨w.heap.size, 0, none⟩)) (w.alloc (.cells (bvs zeros4).toArray 168)) := by
  have h := info_page
  cases hq : Tryz.prog.info? 168 with
  | none => rw [hq] at h; cases h
  | some i =>
    rw [hq] at h
    simp only [Option.map_some, Option.some.injEq, Prod.mk.injEq] at h
    have hz : (zeroValue 168).run Tryz.prog w = .ok (.agg (bvs zeros4).toArray) w := by
      simp only [zeroValue, typeInfo, Sem.run_bind, run_program, Result.andThen_ok, hq, h.1, Sem.run_pure]
    generalize bvs zeros4 = cs at hz ⊢
    simp only [Instr.alloc, Sem.run_bind, hz, Result.andThen_ok, Sem.run_pure, newVar, newRow, Value.cells]
    rfl
theorem wpList_new_page {w : World} {ops : Array Oper} {rest : List Oper} {o : Oper} {a : Act} {Q : Exit → Act → World → Prop} (hg : o.guard = none) (ho : o.op = .alloc 168)
    (h : ∀ w', w' = w.alloc (.cells (bvs zeros4).toArray 168) → wpList Tryz.prog ops Q rest (a.put o.dst (.pointer (some ⟨w.heap.size, 0, none⟩))) w') : wpList Tryz.prog ops Q (o :: rest) a w := by
  refine wpList_plain hg fun K hK => ?_
  unfold Oper.wp execOp
  simp only [ho, Sem.run_bind, Sem.run_pure, Result.andThen_ok, run_new_page]
  exact hK _ _ (h _ rfl)
theorem Keeps.setRow (w : World) (g : Nat) (cs : Array Value) : Keeps (fun j => j = g) w (w.setRow g cs) :=
  ⟨rfl, rfl, rfl, by simp [World.setRow], fun k _ hk => setRow_other w g k cs hk⟩
/-- bytes copied into the middle of a row -/
theorem wpList_copy_mid {w : World} {ops : Array Oper} {rest : List Oper} {o : Oper} {a : Act} {Q : Exit → Act → World → Prop} (hgd : o.guard = none) (d s : Operand)
    (ho : o.op = .call { callee := .builtin .copy, args := #[d, s], argTypes := #[27, 27] }) {g off dl dc : Nat} {v : Value} (hd : a.eval d = .slice (some ⟨g, off, none⟩) dl dc) (hs : a.eval s = v)
    {L zs : List Nat} {t : TypeId} (hg : w.heap[g]? = some (.cells (bvs L).toArray t (0, 0))) (n : Nat) (hn : n = min zs.length dl) (hz : Sl w v zs) (hfit : off + n ≤ L.length)
    (h : ∀ w', w'.heap[g]? = some (.cells (bvs (L.take off ++ zs.take n ++ L.drop (off + n))).toArray t (0, 0)) → Keeps (fun j => j = g) w w' → wpList Tryz.prog ops Q rest (a.put o.dst (goInt n)) w') : wpList Tryz.prog ops Q (o :: rest) a w := by
  obtain ⟨i, hi, hz0, hz1, hz2⟩ := info_parts info_byte
  have hsz : (Tryz.prog.info? 5).map (·.size) = some 1 := by rw [hi, Option.map_some, hz1]
  obtain ⟨ao, cap, rfl, h1, h2, h3, h4, h5⟩ := hz
  by_cases h0 : n = 0
  · subst h0
    refine wpList_copy_nothing hgd d s _ _ ho 5 Tryz.underlying27 hsz _ ao dl dc zs.length cap hd hs (by rw [Nat.min_def] at *; exact hn.symm) ?_
    exact h w (by simpa using hg) (Keeps.refl _ _)
  · have hlt : n ≤ zs.length := by omega
    obtain ⟨b, o', e, _⟩ := h5 0 (by omega)
    subst e
    have hcl : (bvs (zs.take n)).length = n := by rw [bvs_length, List.length_take]; omega
    refine wpList_copy_own hgd d s _ _ ho 5 Tryz.underlying27 hsz g off dl dc ⟨b, o', none⟩ zs.length cap hd hs _ t hg (bvs (zs.take n)) (by rw [hcl]; exact hn) ?_ (by rw [hcl]; simpa [bvs_length] using hfit) (bvs_one _) ?_
    · intro j u hj
      have hjl : j < n := by rw [← hcl]; exact (List.getElem?_eq_some_iff.1 hj).1
      obtain ⟨b', o'', e', hc⟩ := h5 j (by omega)
      cases e'
      rw [bvs_get _ j (by simp; omega)] at hj
      cases hj
      rw [Addr.add_lit, hc]
      simp only [List.getD_eq_getElem?_getD, List.getElem?_take_of_lt hjl]
    · rw [hcl]
      refine h _ ?_ (Keeps.setRow _ _ _)
      have e : ((bvs L).toArray.toList.take off ++ (bvs (zs.take n) ++ (bvs L).toArray.toList.drop (off + n))) = bvs (L.take off ++ zs.take n ++ L.drop (off + n)) := by
        rw [List.append_assoc, bvs_append, bvs_append]
        show (bvs L).take off ++ (bvs (zs.take n) ++ (bvs L).drop (off + n)) = _
        rw [bvs, ← List.map_take, ← List.map_drop]; rfl
      rw [e]
      exact setRow_heap w g _ _ t _ hg
theorem wpList_put_page {w : World} {ops : Array Oper} {rest : List Oper} {o : Oper} {a : Act} {Q : Exit → Act → World → Prop} (hgd : o.guard = none) (m x v : Operand) (ho : o.op = .mapUpdate 106 m x v)
    {B k g c : Nat} {T : Nat → Option Nat} (hm : a.eval m = .map (some B)) (hx : a.eval x = .int .u64 (k : Int)) (hv : a.eval v = .pointer (some ⟨g, 0, none⟩)) (hM : MapT w B T c) (hk : T k = none) (hb : k < 4503599627370496) (hc : c < maxLen)
    (h : ∀ w', MapT w' B (upd T k (some g)) (c + 1) → Keeps (fun j => j = B) w w' → wpList Tryz.prog ops Q rest (a.put o.dst undef) w') : wpList Tryz.prog ops Q (o :: rest) a w := by
  refine wpList_plain hgd fun K hK => ?_
  obtain ⟨w', hr, h2, h3⟩ := hM.put hk hb hc g
  unfold Oper.wp
  simp [execOp, ho, hm, hx, hv, hr, Result.andThen]
  exact hK _ _ (h w' h2 (Keeps.turned h3))
theorem wpList_del_page {w : World} {ops : Array Oper} {rest : List Oper} {o : Oper} {a : Act} {Q : Exit → Act → World → Prop} (hgd : o.guard = none) (m x : Operand) (ho : o.op = .call { callee := .builtin .delete, args := #[m, x], argTypes := #[106, 26] })
    {B k g c : Nat} {T : Nat → Option Nat} (hm : a.eval m = .map (some B)) (hx : a.eval x = .int .u64 (k : Int)) (hM : MapT w B T (c + 1)) (hk : T k = some g) (hb : k < 4503599627370496)
    (h : ∀ w', MapT w' B (upd T k none) c → Keeps (fun j => j = B) w w' → wpList Tryz.prog ops Q rest (a.put o.dst (.tuple #[])) w') : wpList Tryz.prog ops Q (o :: rest) a w := by
  refine wpList_plain hgd fun K hK => ?_
  obtain ⟨w', hr, h2, h3⟩ := hM.del hk hb o.type
  unfold Oper.wp
  simp [execOp, ho, resolve, invoke, builtin, hm, hx, hr, Result.andThen]
  exact hK _ _ (h w' h2 (Keeps.turned h3))
end Go.Proofs.YtddgoncbdlhhhaaGreat
