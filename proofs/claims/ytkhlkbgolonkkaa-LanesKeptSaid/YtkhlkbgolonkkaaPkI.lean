import Derived.Test.YtkhlkbgolonkkaaPkH
import Derived.Test.YtkhlkbgolonkkaaPkK
import Derived.Test.YtkhlkbgolonkkaaLnOpenS
/- LanesKept: what the law holds (books of slots, its buffer, what came in). Own work. -/
namespace Go.Proofs.Ytkhlkbgolonkkaa
open Go.RowKit
set_option linter.unusedVariables false
theorem encRs_drop : ∀ (L : List R4) (k : Nat), (encRs L).drop (k * 4) = encRs (L.drop k)
  | _, 0 => by simp
  | [], k + 1 => by simp [encRs]
  | x :: r, k + 1 => by
    have h := encRs_drop r k
    show (encR x ++ encRs r).drop ((k + 1) * 4) = encRs (r.drop k)
    rw [show (k + 1) * 4 = (encR x).length + k * 4 by simp [encR]; omega, List.drop_length_add_append]
    exact h
/-- the copy of runs into the head of a row -/
theorem wpList_copyL {w : World} {ops : Array Oper} {rest : List Oper} {o : Oper} {a : Act} {Q : Exit → Act → World → Prop} (hgd : o.guard = none) (d s : Operand)
    (ho : o.op = .call { callee := .builtin .copy, args := #[d, s], argTypes := #[23, 23] }) {g dCap m D : Nat} {v : Value} {xs L : List R4} (hL : L.length = xs.length + m) (hD : D = xs.length + m) (hd : a.eval d = .slice (some ⟨g, 0, none⟩) D dCap) (hs : a.eval s = v) (hr : Row4 w g L) (hv : Rn w v xs)
    (h : ∀ w', Hid (Row4 w' g (xs ++ L.drop xs.length)) → Hid (Keeps (fun k => k = g) w w') → wpList Try.prog ops Q rest (a.put o.dst (goInt xs.length)) w') : wpList Try.prog ops Q (o :: rest) a w := by
  subst hD
  obtain ⟨i, hi, hz0, hz1, hz2⟩ := info_parts info_run
  have hsz : (Try.prog.info? 30).map (·.size) = some 4 := by rw [hi, Option.map_some, hz1]
  obtain ⟨ao, cap, rfl, h1, h2, h3, h4⟩ := hv
  refine wpList_plain hgd fun K hK => ?_
  by_cases hp : 0 < xs.length
  · obtain ⟨b, of, rfl, _⟩ := h4 0 hp
    have hrun := run_copyS (P := Try.prog) w 23 23 o.type 30 4 g 0 (xs.length + m) dCap ⟨b, of, none⟩ xs.length cap (encRs L).toArray 30 (encRs xs) Try.underlying23 hsz hr (by rw [encRs_length, show Nat.min xs.length (xs.length + m) = xs.length from Nat.min_eq_left (by omega)]) (fun j u hj => by
      have hjl : j < xs.length * 4 := by have := (List.getElem?_eq_some_iff.1 hj).1; rw [encRs_length] at this; exact this
      obtain ⟨b', o', e, c0, c1, c2, c3⟩ := h4 (j / 4) (by omega)
      cases e
      rw [Addr.add_lit]
      have hj2 : j = j / 4 * 4 + j % 4 := by omega
      rw [hj2, encRs_get xs (j / 4) (j % 4) (by omega) (by omega)] at hj
      rcases (by omega : j % 4 = 0 ∨ j % 4 = 1 ∨ j % 4 = 2 ∨ j % 4 = 3) with e | e | e | e
      · rw [e] at hj
        rw [hj2, e, Nat.add_zero, c0]
        exact hj
      · rw [e] at hj
        rw [hj2, e, ← Nat.add_assoc, c1]
        exact hj
      · rw [e] at hj
        rw [hj2, e, ← Nat.add_assoc, c2]
        exact hj
      · rw [e] at hj
        rw [hj2, e, ← Nat.add_assoc, c3]
        exact hj) (by simp [encRs_length]; omega) (encRs_one xs)
    rw [show Nat.min xs.length (xs.length + m) = xs.length from Nat.min_eq_left (by omega)] at hrun
    unfold Oper.wp
    simp only [execOp, ho, resolve, invoke, builtin, Sem.run_bind, Sem.run_pure, List.map_toArray, List.map_cons, List.map_nil, hd, hs, hrun, Result.andThen_ok]
    refine hK _ _ (h _ ?_ ⟨rfl, rfl, rfl, by simp [World.setRow], fun k _ hk => setRow_other w g k _ hk⟩)
    have e : (encRs L).toArray.toList.take 0 ++ encRs xs ++ (encRs L).toArray.toList.drop (0 + (encRs xs).length) = encRs (xs ++ L.drop xs.length) := by
      simp only [List.take_zero, List.nil_append, Nat.zero_add]
      rw [encRs_append, encRs_length, encRs_drop]
    show _ = _
    rw [e]
    exact setRow_heap w g _ _ _ _ hr
  · obtain rfl : xs = [] := List.eq_nil_of_length_eq_zero (by omega)
    have hr' : Row4 w g L := hr
    have hrun : (Builtin.copy_ #[23, 23] o.type #[.slice (some ⟨g, 0, none⟩) (([] : List R4).length + m) dCap, .slice ao ([] : List R4).length cap]).run Try.prog w = .ok (goInt 0) w := by
      cases ao with
      | none => exact run_copyN w _ _ _ 30 _ _ _ _ Try.underlying23 (by rw [hsz]; rfl)
      | some ad =>
        have := run_copyS (P := Try.prog) w 23 23 o.type 30 4 g 0 (([] : List R4).length + m) dCap ad 0 cap (encRs L).toArray 30 [] Try.underlying23 hsz hr' (by simp) (fun j u hj => by simp at hj) (by simp) (fun _ h => by cases h)
        rw [show Nat.min 0 (([] : List R4).length + m) = 0 from Nat.zero_min _] at this
        have e : ((encRs L).toArray.toList.take 0 ++ [] ++ (encRs L).toArray.toList.drop (0 + ([] : List Value).length)).toArray = (encRs L).toArray := by simp
        rw [e, setRow_self w g _ _ _ hr'] at this
        exact this
    unfold Oper.wp
    simp only [execOp, ho, resolve, invoke, builtin, Sem.run_bind, Sem.run_pure, List.map_toArray, List.map_cons, List.map_nil, hd, hs, hrun, Result.andThen_ok]
    exact hK _ _ (h w (by rw [List.nil_append, List.length_nil, List.drop_zero]; exact hr') (Keeps.refl _ _))
theorem Rn.take {w : World} {ao : Option Addr} {n cap k : Nat} {xs : List R4} (h : Rn w (.slice ao n cap) xs) (hk : k ≤ n) : Rn w (.slice ao k cap) (xs.take k) := by
  obtain ⟨a, c, e, h1, h2, h3, h4⟩ := h
  simp only [Value.slice.injEq] at e
  obtain ⟨rfl, hn, rfl⟩ := e
  have hl : (xs.take k).length = k := by rw [List.length_take]; omega
  refine ⟨ao, cap, by rw [hl], by rw [hl]; omega, h2, fun x hx => h3 x (List.mem_of_mem_take hx), fun i hi => ?_⟩
  rw [hl] at hi
  have := h4 i (by omega)
  rw [List.getElem_take]
  exact this
/-- what lies aside of a book -/
theorem BkQ.aside {w w' : World} {base kb : Nat} {lv wv : Value} {held : Int} {E : List EntQ} {S : Nat → Prop} (h : BkQ w base kb lv wv held E) (k : Keeps S w w') (hs : ∀ q, S q → ∃ cur t, w.heap[q]? = some (.cells cur t (0, 0)) ∧ t ≠ 41 ∧ t ≠ 31 ∧ t ≠ 37) : BkQ w' base kb lv wv held E := by
  have n0 : ¬ S kb := fun hq => by
    obtain ⟨c, t, h1, h2, _⟩ := hs _ hq
    rw [h.blk] at h1
    simp only [Option.some.injEq, Obj.cells.injEq] at h1
    exact h2 h1.2.1.symm
  have n1 : ∀ (v : Value) (vs : List Value), RowV w base 31 v vs → ∀ q, v.ownBlock = some q → ¬ S q := fun v vs hr q hq hS => by
    obtain ⟨c, t, h1, _, h2, _⟩ := hs _ hS
    obtain ⟨d, hd⟩ := hr.tag q hq
    rw [hd] at h1
    simp only [Option.some.injEq, Obj.cells.injEq] at h1
    exact h2 h1.2.1.symm
  have n2 : ∀ (v : Value) (xs : List S3), OwnS w base v xs → ∀ q, v.ownBlock = some q → ¬ S q := fun v xs ho q hq hS => by
    obtain ⟨c, t, h1, _, _, h2⟩ := hs _ hS
    obtain ⟨d, hd⟩ := ho.tagB q hq
    rw [hd] at h1
    simp only [Option.some.injEq, Obj.cells.injEq] at h1
    exact h2 h1.2.1.symm
  exact ⟨(k.block kb h.bw.lt n0).trans h.blk, h.lrow.keeps k (n1 _ _ h.lrow), h.wrow.keeps k (n1 _ _ h.wrow), h.ne, fun x hx => ⟨(h.ents x hx).l.keeps k (n2 _ _ (h.ents x hx).l), (h.ents x hx).w.keeps k (n2 _ _ (h.ents x hx).w), (h.ents x hx).sm⟩, h.nodup⟩
theorem BkQ.below {w w' : World} {base kb : Nat} {lv wv : Value} {held : Int} {E : List EntQ} (h : BkQ w base kb lv wv held E) (hb : Below w.heap.size w w') : BkQ w' base kb lv wv held E := h.aside (Keeps.of_below (S := fun _ => False) hb) (fun q e => e.elim)
/-- what a book writes is none of others' -/
theorem KeQ.block {w w' : World} {base kb q : Nat} {cur : Array Value} {t : TypeId} (k : KeQ base kb w w') (h : w.heap[q]? = some (.cells cur t (0, 0))) (hq : q ≠ kb) (ht : t ≠ 31) : w'.heap[q]? = some (.cells cur t (0, 0)) := by
  refine (Keeps.block k q (Array.getElem?_eq_some_iff.1 h).1 (fun hs => ?_)).trans h
  rcases hs with e | ⟨_, c, hc⟩
  · exact hq e
  · rw [h] at hc
    simp only [Option.some.injEq, Obj.cells.injEq] at hc
    exact ht hc.2.1
theorem KeQ.low {w w' : World} {base kb : Nat} (k : KeQ base kb w w') (hk : base ≤ kb) (hb : base ≤ w.heap.size) : Below base w w' := Keeps.below k hb (fun i _ hs => by
  rcases hs with e | ⟨h, _⟩
  · omega
  · exact h)
/-- a lane that is asked for -/
structure A5 where
  m : Nat
  q : Int
  cp : Int
  nd : Bool
  v : Value
  xs : List R4
/-- asks that came in -/
def As (w : World) (v : Value) (ks : List A5) : Prop :=
  ∃ ao cap, v = .slice ao ks.length cap ∧ ks.length ≤ cap ∧ cap ≤ maxLen ∧ ∀ i (h : i < ks.length), (∃ b o, ao = some ⟨b, o, none⟩ ∧ w.cell? ⟨b, o + i * 5, none⟩ = some (.int .u64 (ks[i].m : Int)) ∧ w.cell? ⟨b, o + i * 5 + 1, none⟩ = some (.int .i64 ks[i].q) ∧ w.cell? ⟨b, o + i * 5 + 2, none⟩ = some (.int .u64 ks[i].cp) ∧ w.cell? ⟨b, o + i * 5 + 3, none⟩ = some (.bool ks[i].nd) ∧ w.cell? ⟨b, o + i * 5 + 4, none⟩ = some ks[i].v) ∧ Rn w ks[i].v ks[i].xs
theorem As.below {w w' : World} {v : Value} {ks : List A5} (h : As w v ks) (hb : Below w.heap.size w w') : As w' v ks := by
  obtain ⟨ao, cap, rfl, h1, h2, h3⟩ := h
  refine ⟨ao, cap, rfl, h1, h2, fun i hi => ?_⟩
  obtain ⟨⟨b, o, rfl, c0, c1, c2, c3, c4⟩, hr⟩ := h3 i hi
  have hl := World.block_lt_of_cell? w _ c0
  exact ⟨⟨b, o, rfl, (hb.cell (p := ⟨b, o + i * 5, none⟩) hl).trans c0, (hb.cell (p := ⟨b, o + i * 5 + 1, none⟩) hl).trans c1, (hb.cell (p := ⟨b, o + i * 5 + 2, none⟩) hl).trans c2, (hb.cell (p := ⟨b, o + i * 5 + 3, none⟩) hl).trans c3, (hb.cell (p := ⟨b, o + i * 5 + 4, none⟩) hl).trans c4⟩, hr.below hb⟩
/-- the law's book and its buffer -/
structure Kv (w wr : World) (gb : Nat) : Prop where
  below : Below w.heap.size w wr
  bk : ∃ lv wv held E, BkQ wr w.heap.size w.heap.size lv wv held E ∧ E.length ≤ 4000
  row : ∃ L, Row4 wr gb L ∧ L.length = 40
  ge : w.heap.size < gb
theorem Kv.lt {w wr : World} {gb : Nat} (h : Kv w wr gb) : w.heap.size < wr.heap.size := by
  obtain ⟨L, hL, _⟩ := h.row
  have := hL.lt
  have := h.ge
  omega
theorem Kv.go {w wr w' : World} {gb : Nat} (h : Kv w wr gb) (hb : Below wr.heap.size wr w') : Kv w w' gb := by
  obtain ⟨lv, wv, held, E, h1, h2⟩ := h.bk
  obtain ⟨L, hL, h3⟩ := h.row
  exact ⟨h.below.trans (hb.mono h.below.size), ⟨lv, wv, held, E, h1.below hb, h2⟩, ⟨L, hL.below hb, h3⟩, h.ge⟩
theorem Kv.buf {w wr w' : World} {gb : Nat} {L : List R4} (h : Kv w wr gb) (k : Keeps (fun q => q = gb) wr w') (hr : Row4 w' gb L) (hl : L.length = 40) : Kv w w' gb := by
  obtain ⟨lv, wv, held, E, h1, h2⟩ := h.bk
  obtain ⟨L0, hL, h3⟩ := h.row
  refine ⟨h.below.trans (k.below h.below.size (fun i _ e => by have := h.ge; omega)), ⟨lv, wv, held, E, h1.aside k (fun q e => ?_), h2⟩, ⟨L, hr, hl⟩, h.ge⟩
  subst e
  exact ⟨_, _, hL, by decide, by decide, by decide⟩
theorem Kv.put {w wr : World} {gb q i : Nat} {v : Value} {cur : Array Value} {t : TypeId} (h : Kv w wr gb) (hq : wr.heap[q]? = some (.cells cur t (0, 0))) (hn : q ≠ gb) (hg : w.heap.size < q) (h1 : t ≠ 41) (h2 : t ≠ 31) (h3 : t ≠ 37) : Kv w (wr.setCell ⟨q, i, none⟩ v) gb := by
  obtain ⟨lv, wv, held, E, a1, a2⟩ := h.bk
  obtain ⟨L0, hL, a3⟩ := h.row
  have k := Keeps.setCell wr q i v
  refine ⟨h.below.trans (k.below h.below.size (fun j _ e => by omega)), ⟨lv, wv, held, E, a1.aside k (fun q' e => ?_), a2⟩, ⟨L0, (k.block gb hL.lt (fun e => hn e.symm)).trans hL, a3⟩, h.ge⟩
  subst e
  exact ⟨_, _, hq, h1, h2, h3⟩
theorem Kv.kept {w wr w' : World} {gb : Nat} {lv wv : Value} {held : Int} {E : List EntQ} (h : Kv w wr gb) (hb : BkQ w' w.heap.size w.heap.size lv wv held E) (hl : E.length ≤ 4000) (k : KeQ w.heap.size w.heap.size wr w') : Kv w w' gb := by
  obtain ⟨L0, hL, a3⟩ := h.row
  exact ⟨h.below.trans (k.low (Nat.le_refl _) h.below.size), ⟨lv, wv, held, E, hb, hl⟩, ⟨L0, k.block hL (by have := h.ge; omega) (by decide), a3⟩, h.ge⟩
/-- the law's x and y -/
structure Kx (w wr : World) (gb bx bl : Nat) (X : Array Value) (q cp : Int) (nd : Bool) (yv : Value) : Prop where
  kv : Kv w wr gb
  xb : wr.heap[bx]? = some (.cells X 43 (0, 0))
  yb : wr.heap[bl]? = some (.cells #[.int .i64 q, .int .u64 cp, .bool nd, yv] 25 (0, 0))
  xge : w.heap.size < bx
  yge : w.heap.size < bl
theorem Kx.xn {w wr : World} {gb bx bl : Nat} {X : Array Value} {q cp : Int} {nd : Bool} {yv : Value} (h : Kx w wr gb bx bl X q cp nd yv) : bx ≠ gb ∧ bl ≠ gb ∧ bx ≠ bl := by
  obtain ⟨L0, hL, _⟩ := h.kv.row
  have hL : wr.heap[gb]? = some (.cells (encRs L0).toArray 30 (0, 0)) := hL
  refine ⟨fun e => ?_, fun e => ?_, fun e => ?_⟩
  · have := h.xb
    rw [e, hL] at this
    simp at this
  · have := h.yb
    rw [e, hL] at this
    simp at this
  · have := h.xb
    rw [e, h.yb] at this
    simp at this
theorem Kx.go {w wr w' : World} {gb bx bl : Nat} {X : Array Value} {q cp : Int} {nd : Bool} {yv : Value} (h : Kx w wr gb bx bl X q cp nd yv) (hb : Below wr.heap.size wr w') : Kx w w' gb bx bl X q cp nd yv :=
  ⟨h.kv.go hb, (hb.block _ (Array.getElem?_eq_some_iff.1 h.xb).1).trans h.xb, (hb.block _ (Array.getElem?_eq_some_iff.1 h.yb).1).trans h.yb, h.xge, h.yge⟩
theorem Kx.buf {w wr w' : World} {gb bx bl : Nat} {X : Array Value} {q cp : Int} {nd : Bool} {yv : Value} {L : List R4} (h : Kx w wr gb bx bl X q cp nd yv) (k : Keeps (fun q => q = gb) wr w') (hr : Row4 w' gb L) (hl : L.length = 40) : Kx w w' gb bx bl X q cp nd yv :=
  ⟨h.kv.buf k hr hl, (k.block _ (Array.getElem?_eq_some_iff.1 h.xb).1 h.xn.1).trans h.xb, (k.block _ (Array.getElem?_eq_some_iff.1 h.yb).1 h.xn.2.1).trans h.yb, h.xge, h.yge⟩
theorem Kx.putY {w wr : World} {gb bx bl : Nat} {X : Array Value} {q cp : Int} {nd : Bool} {yv : Value} (h : Kx w wr gb bx bl X q cp nd yv) (v : Value) : Kx w (wr.setCell ⟨bl, 3, none⟩ v) gb bx bl X q cp nd v := by
  refine ⟨h.kv.put h.yb h.xn.2.1 h.yge (by decide) (by decide) (by decide), ((Keeps.setCell wr bl 3 v).block _ (Array.getElem?_eq_some_iff.1 h.xb).1 h.xn.2.2).trans h.xb, ?_, h.xge, h.yge⟩
  simp [World.setCell, Array.getElem?_modify, h.yb]
theorem Kx.kept {w wr w' : World} {gb bx bl : Nat} {X : Array Value} {q cp : Int} {nd : Bool} {yv : Value} {lv wv : Value} {held : Int} {E : List EntQ} (h : Kx w wr gb bx bl X q cp nd yv) (hb : BkQ w' w.heap.size w.heap.size lv wv held E) (hl : E.length ≤ 4000) (k : KeQ w.heap.size w.heap.size wr w') : Kx w w' gb bx bl X q cp nd yv :=
  ⟨h.kv.kept hb hl k, k.block h.xb (by have := h.xge; omega) (by decide), k.block h.yb (by have := h.yge; omega) (by decide), h.xge, h.yge⟩
end Go.Proofs.Ytkhlkbgolonkkaa
/- Asks that come in, in memory. Own work. -/
namespace Go.Proofs.Ytkhlkbgolonkkaa
open Go.RowKit Go.ChangeShapes Go.WideShapes
theorem five_list {α : Type} {cs : List α} {x0 x1 x2 x3 x4 : α} (h : cs.length = 5) (h0 : (cs.drop 0).take 1 = [x0]) (h1 : (cs.drop 1).take 4 = [x1, x2, x3, x4]) : cs = [x0, x1, x2, x3, x4] := by
  match cs, h with
  | [a, b, c, d, e], _ => simp_all
section
variable {H : Type} {enc : TypeId × Value → H} {W : World} {base : Nat} {held : Bool}
theorem ask1_opened {fuel : Nat} {cs : List Value} {x : DataW H × List MemPlace} (h : DataW.trod enc Try.prog W base (fun _ => true) held fuel 43 cs = some x) :
    ∃ y : A5, cs = [.int .u64 (y.m : Int), .int .i64 y.q, .int .u64 y.cp, .bool y.nd, y.v] ∧ Rn W y.v y.xs := by
  obtain ⟨xs, n, _, _, hl, hlen, hf⟩ := DataW.trod_struct Try.underlying43 h
  have hlen2 : xs.length = 2 := hlen
  obtain ⟨y0, e0⟩ := some_in hlen2 (show 0 < 2 by decide)
  obtain ⟨y1, e1⟩ := some_in hlen2 (show 1 < 2 by decide)
  obtain ⟨m, hm, _, wm⟩ := DataW.trod_int Try.underlying22 ((hf 0 _ rfl).trans e0)
  obtain ⟨q, cp, nd, v, ys, hv, hr⟩ := lane_opened ((hf 1 _ rfl).trans e1)
  have c6 : Try.prog.cellsOf 22 = 1 := by kernel_rfl
  have cL : Try.prog.cellsOf 25 = 4 := by kernel_rfl
  have cS : Try.prog.cellsOf 43 = 5 := by kernel_rfl
  change List.take (Try.prog.cellsOf 22) (List.drop 0 cs) = _ at hm
  change List.take (Try.prog.cellsOf 25) (List.drop 1 cs) = _ at hv
  rw [c6] at hm
  rw [cL] at hv
  obtain ⟨mm, rfl, _⟩ := u64_nat wm
  exact ⟨⟨mm, q, cp, nd, v, ys⟩, five_list (by rw [hl, cS]) hm hv, hr⟩
theorem asks_opened {fuel : Nat} {cs : List Value} {x : DataW H × List MemPlace} (h : DataW.trod enc Try.prog W base (fun _ => true) held fuel 38 cs = some x) : ∃ v ks, cs = [v] ∧ As W v ks := by
  rcases Go.Deep.open_slice Try.underlying38 h with ⟨rfl, _⟩ | ⟨a, len, cap, m, n, D, Pl, rfl, _, hl, hm, hmm, rfl, hx⟩
  · exact ⟨_, [], rfl, ⟨none, 0, rfl, Nat.le_refl _, Nat.zero_le _, fun i hi => by simp at hi⟩⟩
  · have cS : Try.prog.cellsOf 43 = 5 := by kernel_rfl
    rw [cS] at hx
    have hmc : m = cap := by simpa using hmm
    haveI : Inhabited A5 := ⟨⟨0, 0, 0, false, .slice none 0 0, []⟩⟩
    obtain ⟨F, hF⟩ := Go.Deep.choose_lt (α := A5) (n := len) (p := fun i y => Rn W y.v y.xs ∧ ∀ j v, ([.int .u64 (y.m : Int), .int .i64 y.q, .int .u64 y.cp, .bool y.nd, y.v] : List Value)[j]? = some v → W.cell? ((a.add (i * 5)).add j) = some v) (fun i hi => by
      obtain ⟨cs', h1, h2⟩ := hx i (by omega)
      obtain ⟨y, rfl, hb⟩ := ask1_opened h2
      obtain ⟨_, _, hc⟩ := World.cells?_some h1
      refine ⟨y, hb, fun j v hj => ?_⟩
      rw [hc j (by have := (List.getElem?_eq_some_iff.1 hj).1; simpa using this)]
      exact hj)
    refine ⟨_, (List.range len).map F, rfl, ⟨some a, cap, by simp, by simpa using hl, hm, fun i hi => ?_⟩⟩
    have hi' : i < len := by simpa using hi
    obtain ⟨hr, hc⟩ := hF i hi'
    have hget : ((List.range len).map F)[i] = F i := by simp
    rw [hget]
    refine ⟨?_, hr⟩
    obtain ⟨b, o, sp⟩ := a
    cases sp with
    | some q => exact absurd (World.cell?_spot ((hF 0 (by omega)).2 0 _ rfl)) (by simp [Addr.add])
    | none =>
      simp only [Go.WideShapes.add_plain] at hc
      exact ⟨b, o, rfl, hc 0 _ rfl, hc 1 _ rfl, hc 2 _ rfl, hc 3 _ rfl, hc 4 _ rfl⟩
end
end Go.Proofs.Ytkhlkbgolonkkaa
/- LanesKept: the walk. Own work. -/
namespace Go.Proofs.Ytkhlkbgolonkkaa
open Go.RowKit
set_option linter.unusedVariables false
theorem flE_len (m : Nat) (nd : Bool) (xs : List R4) : (flE m nd xs).2.2.length ≤ 4096 := by
  unfold flE
  split
  · exact Nat.zero_le _
  · split
    · exact Nat.zero_le _
    · split
      · exact Nat.zero_le _
      · rename_i h
        show (tickR xs (whoT nd xs) m).length ≤ 4096
        omega
set_option maxRecDepth 100000 in
set_option maxHeartbeats 8000000 in
theorem lanesKept_walk {w : World} {v : Value} {ks : List A5} (h : As w v ks) : Calls Try.prog 5 #[v] w fun e w' => e = .returned (.bool true) ∧ Below w.heap.size w w' := by
  have HA := Lib.hid h
  obtain ⟨ao, cap, rfl, h1, h2, h3⟩ := h
  clear h3
  unfold maxLen at h2
  obtain ⟨n, hn⟩ : ∃ n, ks.length = n := ⟨_, rfl⟩
  have HN := Lib.hid hn
  rw [hn] at h1 HA ⊢
  clear hn
  have HK := Lib.hid known_any
  obtain ⟨ii, hii, hz0, hz1, hz2⟩ := info_parts info_run
  go_enter Try.func5, Try.ntmps5
  go_wp2_with (at_make; refine wpList_make_full _ rfl _ _ 23 rfl (w.heap.size + 1) 30 ii (.agg #[.int .i64 0, .string ⟨#[]⟩, .int .u64 0, .int .u64 0]) 4 Try.underlying23 hii hz0 hz1 _ _ _ _ 40 rfl rfl (by omega) (by omega) (by rw [hz2]; omega) (by simp only [maxLen]; omega) (by simp) ?_)
  intro w1 hown hgrow
  have HV1 : Hid (Kv w w1 (w.heap.size + 1)) := by
    have hb : Below (w.heap.size + 1) (w.alloc (.cells #[.slice none 0 0, .slice none 0 0, .int .i64 0, .bool false] 41)) w1 := (Below.refl _ _).grown hgrow (by simp) (by simp)
    have hx : w1.heap[w.heap.size]? = some (.cells #[.slice none 0 0, .slice none 0 0, .int .i64 0, .bool false] 41 (0, 0)) := (hb.block w.heap.size (by omega)).trans (Array.getElem?_push_size (xs := w.heap))
    exact ⟨((Below.refl _ _).alloc (Nat.le_refl _) _).trans (hb.mono (by omega)), ⟨_, _, _, [], bkQ_new hx, by simp⟩, ⟨_, made4 hown, by simp⟩, by omega⟩
  clear hown hgrow hii hz0 hz1 hz2
  obtain ⟨gb, hgb⟩ : ∃ gb, gb = w.heap.size + 1 := ⟨_, rfl⟩
  rw [← hgb] at HV1 ⊢
  clear hgb
  go_wp2_with fail
  go_loopw [5] (fun iv wr => ∃ i : Nat, i ≤ n ∧ i ≤ 20 ∧ iv = .int .i64 (i : Int) ∧ Hid (Kv w wr gb)) (fun iv _ => n - (intOf iv).toNat)
  case atStart => exact ⟨0, by omega, by omega, rfl, HV1⟩
  case round =>
    clear HV1
    obtain ⟨i, hi, hi2, rfl, HV⟩ := hrel
    by_cases hin : i < n ∧ i < 20
    · obtain ⟨hin, hin2⟩ := hin
      have hix : i < ks.length := by rw [HN.out]; exact hin
      have ji : (i : Int) < (n : Int) := by omega
      have ji2 : (i : Int) < 20 := by omega
      have hw1 : IntKind.i64.wrap ((i : Int) + 1) = ((i + 1 : Nat) : Int) := by rw [IntKind.wrap_i64]; omega
      obtain ⟨_, _, e', _, _, hc⟩ := HA.out.below HV.out.below
      simp only [Value.slice.injEq] at e'
      obtain ⟨rfl, hNn, rfl⟩ := e'
      clear hNn
      obtain ⟨⟨b, of, rfl, c0, c1, c2, c3, c4⟩, _⟩ := hc i hix
      obtain ⟨_, _, e', _, _, hc'⟩ := HA.out
      simp only [Value.slice.injEq] at e'
      obtain ⟨rfl, hNn, rfl⟩ := e'
      clear hNn
      have hrn := (hc' i hix).2
      clear hc hc'
      generalize ks[i] = x at *
      obtain ⟨m, q, cp, nd, xv, xs⟩ := x
      simp only at c0 c1 c2 c3 c4 hrn
      have hrn' := hrn
      obtain ⟨xa, xc, rfl, x1, x2, hok, xcl⟩ := hrn'
      unfold maxLen at x2
      obtain ⟨N, hxN⟩ : ∃ N, xs.length = N := ⟨_, rfl⟩
      rw [hxN] at hrn c4 x1
      obtain ⟨nn, hnn⟩ : ∃ nn, nn = min N 40 := ⟨_, rfl⟩
      have hnn2 : nn ≤ 40 ∧ nn ≤ N := by omega
      have HR : Hid (Rn w (.slice xa nn xc) (xs.take nn)) := hrn.take hnn2.2
      have HXl : Hid ((xs.take nn).length = nn) := by show _ = _; rw [List.length_take]; omega
      have HXk : Hid (∀ x ∈ xs.take nn, R4.ok x) := fun x hx => hok x (List.mem_of_mem_take hx)
      have HF1 : Hid (∀ u, N = u + 1 → ∃ b o, xa = some ⟨b, o, none⟩) := fun u hu => by
        obtain ⟨b, o, e, _⟩ := xcl 0 (by omega)
        exact ⟨b, o, e⟩
      have HWl : Hid (w.heap.size < wr.heap.size) := HV.out.lt
      have HWa : Hid (Below wr.heap.size wr (wr.alloc (.cells #[.int .u64 (m : Int), .int .i64 q, .int .u64 cp, .bool nd, .slice xa N xc] 43))) := (Below.refl _ _).alloc (Nat.le_refl _) _
      have HXb : Hid ((wr.alloc (.cells #[.int .u64 (m : Int), .int .i64 q, .int .u64 cp, .bool nd, .slice xa N xc] 43)).heap[wr.heap.size]? = some (.cells #[.int .u64 (m : Int), .int .i64 q, .int .u64 cp, .bool nd, .slice xa N xc] 43 (0, 0))) := Array.getElem?_push_size (xs := wr.heap)
      have HVa := Lib.hid (HV.out.go HWa.out)
      clear xcl hok hrn
      go_upto_if 35 with fail
      generalize wr.alloc (.cells #[.int .u64 (m : Int), .int .i64 q, .int .u64 cp, .bool nd, .slice xa N xc] 43) = W at *
      have hbg : wr.heap.size ≠ gb := fun e => by
        obtain ⟨L0, hL, _⟩ := HV.out.row
        have := hL.lt
        omega
      clear c0 c1 c2 c3 c4 HV HWa
      generalize wr.heap.size = bx at *
      have g4 : W.cell? ⟨bx, 4, none⟩ = some (.slice xa N xc) := by rw [cell_of_row _ _ _ _ _ _ HXb.out]; rfl
      have z4' : W.frozen? ⟨bx, 4, none⟩ = false := by simp [World.frozen?, HXb.out]
      go_cut [] (fun wx => Hid (Kv w wx gb) ∧ Hid (wx.heap[bx]? = some (.cells #[.int .u64 (m : Int), .int .i64 q, .int .u64 cp, .bool nd, .slice xa nn xc] 43 (0, 0))))
      case first =>
        by_cases h40 : 40 < N
        · have j40 : (40 : Int) < (N : Int) := by omega
          obtain rfl : nn = 40 := by omega
          obtain ⟨b2, o2, rfl⟩ := HF1.out (N - 1) (by omega)
          have HVs : Hid (Kv w (W.setCell ⟨bx, 4, none⟩ (.slice (some ⟨b2, o2, none⟩) 40 xc)) gb) := HVa.out.put HXb.out hbg HWl.out (by decide) (by decide) (by decide)
          have HXs : Hid ((W.setCell ⟨bx, 4, none⟩ (.slice (some ⟨b2, o2, none⟩) 40 xc)).heap[bx]? = some (.cells #[.int .u64 (m : Int), .int .i64 q, .int .u64 cp, .bool nd, .slice (some ⟨b2, o2, none⟩) 40 xc] 43 (0, 0))) := by
            show _ = _
            simp [World.setCell, Array.getElem?_modify, HXb.out]
          have jx : (40 : Int) ≤ (xc : Int) := by omega
          clear hnn hnn2 hxN
          go_wp2_with fail
          go_meet
          exact ⟨HVs, HXs⟩
        · have j40 : ¬ (40 : Int) < (N : Int) := by omega
          obtain rfl : nn = N := by omega
          clear hnn hnn2 hxN
          go_wp2_with fail
          go_meet
          exact ⟨HVa, HXb⟩
      case rest =>
        obtain ⟨HV2, HX2⟩ := hcut
        clear HVa HXb g4 z4' HF1 hnn hxN x1 hin hin2
        obtain ⟨xt, hxt⟩ : ∃ xt, xs.take nn = xt := ⟨_, rfl⟩
        rw [hxt] at HR HXl HXk
        clear hxt
        obtain ⟨hnn40, _⟩ := hnn2
        have HLt : Hid (w.heap.size < wc.heap.size) := HV2.out.lt
        have d1 : wc.cell? ⟨bx, 1, none⟩ = some (.int .i64 q) := by rw [cell_of_row _ _ _ _ _ _ HX2.out]; rfl
        have d2 : wc.cell? ⟨bx, 2, none⟩ = some (.int .u64 cp) := by rw [cell_of_row _ _ _ _ _ _ HX2.out]; rfl
        have d3 : wc.cell? ⟨bx, 3, none⟩ = some (.bool nd) := by rw [cell_of_row _ _ _ _ _ _ HX2.out]; rfl
        have d4 : wc.cell? ⟨bx, 4, none⟩ = some (.slice xa nn xc) := by rw [cell_of_row _ _ _ _ _ _ HX2.out]; rfl
        have HKx : Hid (Kx w (wc.alloc (.cells #[.int .i64 q, .int .u64 cp, .bool nd, .slice xa nn xc] 25)) gb bx wc.heap.size #[.int .u64 (m : Int), .int .i64 q, .int .u64 cp, .bool nd, .slice xa nn xc] q cp nd (.slice xa nn xc)) := by
          have ha : Below wc.heap.size wc (wc.alloc (.cells #[.int .i64 q, .int .u64 cp, .bool nd, .slice xa nn xc] 25)) := (Below.refl _ _).alloc (Nat.le_refl _) _
          exact ⟨HV2.out.go ha, (ha.block _ (Array.getElem?_eq_some_iff.1 HX2.out).1).trans HX2.out, Array.getElem?_push_size (xs := wc.heap), HWl.out, HLt.out⟩
        clear HV2 HX2
        obtain ⟨wA, hwA⟩ : ∃ wA, wA = wr := ⟨_, rfl⟩
        subst hwA
        go_wp2_with fail
        clear d1 d2 d3 d4
        generalize wc.heap.size = bl at *
        go_loopw [8] (fun kv wr => ∃ k : Nat, k ≤ 2 ∧ kv = .int .i64 (k : Int) ∧ ∃ yv, Hid (Kx w wr gb bx bl #[.int .u64 (m : Int), .int .i64 q, .int .u64 cp, .bool nd, .slice xa nn xc] q cp nd yv)) (fun kv _ => 2 - (intOf kv).toNat)
        case atStart => exact ⟨0, by omega, rfl, _, HKx⟩
        case round =>
          clear HKx
          obtain ⟨k, hk, rfl, yv, HKx⟩ := hrel
          by_cases hk2 : k < 2
          · have jk : (k : Int) < 2 := by omega
            have hwk : IntKind.i64.wrap ((k : Int) + 1) = ((k + 1 : Nat) : Int) := by rw [IntKind.wrap_i64]; omega
            obtain ⟨L, hL, hL40⟩ := HKx.out.kv.row
            have HRw := Lib.hid hL
            have HRr := Lib.hid (HR.out.below HKx.out.kv.below)
            have HLl : Hid (L.length = xt.length + (40 - nn)) := by show _ = _; rw [hL40, HXl.out]; omega
            have HD40 : Hid (40 = xt.length + (40 - nn)) := by show _ = _; rw [HXl.out]; omega
            have HL40 : Hid ((xt ++ L.drop xt.length).length = 40) := by show _ = _; rw [List.length_append, List.length_drop, hL40, HXl.out]; omega
            have f4 : wr.cell? ⟨bx, 4, none⟩ = some (.slice xa nn xc) := by rw [cell_of_row _ _ _ _ _ _ HKx.out.xb]; rfl
            clear hL hL40
            obtain ⟨wB, hwB⟩ : ∃ wB, wB = wr := ⟨_, rfl⟩
            subst hwB
            go_wp2_with (refine wpList_copyL rfl (.tmp 48) (.tmp 51) rfl HLl.out HD40.out rfl rfl HRw.out HRr.out ?_)
            intro w2 HR2 HK2
            have HX2 := Lib.hid (HKx.out.buf HK2.out HR2.out HL40.out)
            have HX3 := Lib.hid (HX2.out.putY (.slice (some ⟨gb, 0, none⟩) nn 40))
            have HR3 : Hid (Row4 (w2.setCell ⟨bl, 3, none⟩ (.slice (some ⟨gb, 0, none⟩) nn 40)) gb (xt ++ L.drop xt.length)) := ((Keeps.setCell w2 bl 3 _).block gb HR2.out.lt (fun e => HX2.out.xn.2.1 e.symm)).trans HR2.out
            have g4 : w2.cell? ⟨bx, 4, none⟩ = some (.slice xa nn xc) := by rw [cell_of_row _ _ _ _ _ _ HX2.out.xb]; rfl
            have y3 : w2.cell? ⟨bl, 3, none⟩ = some yv := by rw [cell_of_row _ _ _ _ _ _ HX2.out.yb]; rfl
            have yz : w2.frozen? ⟨bl, 3, none⟩ = false := by simp [World.frozen?, HX2.out.yb]
            have j40 : (nn : Int) ≤ 40 := by omega
            clear HR2 HK2 HLl HD40 HRw HRr f4 HKx
            go_upto_region 15 with fail
            clear HX2 g4 y3 yz
            generalize w2.setCell ⟨bl, 3, none⟩ (.slice (some ⟨gb, 0, none⟩) nn 40) = W3 at *
            have HRy : Hid (Rn W3 (.slice (some ⟨gb, 0, none⟩) nn 40) xt) := by
              have h5 := HR3.out.rd (n := nn) (c := 40) (by rw [HL40.out]; exact hnn40) hnn40 (by unfold maxLen; omega) (by rw [List.take_left' HXl.out]; exact HXk.out)
              rw [List.take_left' HXl.out] at h5
              exact h5
            have HFl := Lib.hid (flatten_any (m := m) (q := q) (cp := cp) (nd := nd) HRy.out)
            have HRf : Hid (∀ W, Below w.heap.size w W → Calls Try.prog 11 #[.int .u64 (m : Int), .agg #[.int .i64 q, .int .u64 cp, .bool nd, .slice xa nn xc]] W fun e w' => ∃ u, e = .returned (.tuple #[u, .int .i64 (flE m nd xt).1, .int .i64 (flE m nd xt).2.1]) ∧ OwnS w' W.heap.size u (flE m nd xt).2.2 ∧ Below W.heap.size W w') := fun W hW => rFlatten_any (HR.out.below hW)
            have HSq : Hid (SmQ (flE m nd xt).2.2) := ⟨by have := flE_len m nd xt; omega, flE_i64 m nd xt⟩
            obtain ⟨F1, hF1⟩ : ∃ F, (flE m nd xt).1 = F := ⟨_, rfl⟩
            obtain ⟨F2, hF2⟩ : ∃ F, (flE m nd xt).2.1 = F := ⟨_, rfl⟩
            obtain ⟨F3, hF3⟩ : ∃ F, (flE m nd xt).2.2 = F := ⟨_, rfl⟩
            rw [hF1, hF2, hF3] at HFl HRf
            rw [hF3] at HSq
            clear hF1 hF2 hF3
            obtain ⟨lv, wv, held, E, hbk3, hEl⟩ := HX3.out.kv.bk
            have HE3 : Hid (∀ k ∈ blksQ E, k < W3.heap.size) := blksQ_lt hbk3.ents
            have HBk3 := Lib.hid hbk3
            have HEl := Lib.hid hEl
            have a0 : W3.cell? ⟨bx, 0, none⟩ = some (.int .u64 (m : Int)) := by rw [cell_of_row _ _ _ _ _ _ HX3.out.xb]; rfl
            have b0 : W3.cell? ⟨bl, 0, none⟩ = some (.int .i64 q) := by rw [cell_of_row _ _ _ _ _ _ HX3.out.yb]; rfl
            have b1 : W3.cell? ⟨bl, 1, none⟩ = some (.int .u64 cp) := by rw [cell_of_row _ _ _ _ _ _ HX3.out.yb]; rfl
            have b2 : W3.cell? ⟨bl, 2, none⟩ = some (.bool nd) := by rw [cell_of_row _ _ _ _ _ _ HX3.out.yb]; rfl
            have b3 : W3.cell? ⟨bl, 3, none⟩ = some (.slice (some ⟨gb, 0, none⟩) nn 40) := by rw [cell_of_row _ _ _ _ _ _ HX3.out.yb]; rfl
            have HGl : Hid (gb < W3.heap.size) := HR3.out.lt
            clear hbk3 hEl HRy
            go_wp2_with fail
            refine HFl.out.mono ?_
            rintro e w4 ⟨u, rfl, ho4, hb4⟩
            have HX4 := Lib.hid (HX3.out.go hb4)
            have HBk4 := Lib.hid (HBk3.out.below hb4)
            have HO4 := Lib.hid ho4
            have HR4 := Lib.hid (HR3.out.below hb4)
            obtain ⟨ua, uc, rfl⟩ := ho4.form
            obtain ⟨un, hun⟩ : ∃ un, F3.length = un := ⟨_, rfl⟩
            rw [hun] at HO4 ⊢
            clear ho4 hb4 a0 b0 b1 b2 b3 HX3 HBk3 HR3 HFl hun
            go_wp2_with fail
            go_loopw [12] (fun jv wx => ∃ j : Nat, j ≤ 40 ∧ jv = .int .i64 (j : Int) ∧ (∃ L, Hid (Row4 wx gb L) ∧ Hid (L.length = 40)) ∧ Hid (Keeps (fun q => q = gb) w4 wx)) (fun jv _ => 40 - (intOf jv).toNat)
            case atStart => exact ⟨0, by omega, rfl, ⟨_, HR4, HL40⟩, Keeps.refl _ _⟩
            case round =>
              clear HL40
              obtain ⟨j, hj, rfl, ⟨L4, HR5, HL5⟩, HK5⟩ := hrel
              by_cases hj4 : j < 40
              · have jj : (j : Int) < 40 := by omega
                have hwj : IntKind.i64.wrap ((j : Int) + 1) = ((j + 1 : Nat) : Int) := by rw [IntKind.wrap_i64]; omega
                have hjl : j < L4.length := by rw [HL5.out]; exact hj4
                have c0 := HR5.out.cell j 0 hjl (by omega)
                have c1 := HR5.out.cell j 1 hjl (by omega)
                have c2 := HR5.out.cell j 2 hjl (by omega)
                have c3 := HR5.out.cell j 3 hjl (by omega)
                simp only [encR, List.getElem?_cons_zero, List.getElem?_cons_succ, Nat.add_zero] at c0 c1 c2 c3
                have f0 : wr.frozen? ⟨gb, j * 4, none⟩ = false := by simp [World.frozen?, show wr.heap[gb]? = _ from HR5.out]
                have f1 : wr.frozen? ⟨gb, j * 4 + 1, none⟩ = false := by simp [World.frozen?, show wr.heap[gb]? = _ from HR5.out]
                have f2 : wr.frozen? ⟨gb, j * 4 + 2, none⟩ = false := by simp [World.frozen?, show wr.heap[gb]? = _ from HR5.out]
                have f3 : wr.frozen? ⟨gb, j * 4 + 3, none⟩ = false := by simp [World.frozen?, show wr.heap[gb]? = _ from HR5.out]
                have HS := Lib.hid (HR5.out.set j hjl ⟨0, ⟨#[119, 114, 105, 116, 116, 101, 110]⟩, 1, 1⟩)
                have HLs : Hid ((L4.set j ⟨0, ⟨#[119, 114, 105, 116, 116, 101, 110]⟩, 1, 1⟩).length = 40) := by show _ = _; rw [List.length_set]; exact HL5.out
                generalize L4[j] = x4 at *
                clear hjl
                go_wp2_with fail
                go_roundw
                case rel => exact ⟨j + 1, by omega, rfl, ⟨_, HS, HLs⟩, (((HK5.out.trans (Keeps.setCell _ _ _ _) (fun _ _ e => e)).trans (Keeps.setCell _ _ _ _) (fun _ _ e => e)).trans (Keeps.setCell _ _ _ _) (fun _ _ e => e)).trans (Keeps.setCell _ _ _ _) (fun _ _ e => e)⟩
                case measure => simp [intOf]; omega
              · obtain rfl : j = 40 := by omega
                have HX5 := Lib.hid (HX4.out.buf HK5.out HR5.out HL5.out)
                have HBk5 : Hid (BkQ wr w.heap.size w.heap.size lv wv held E) := HBk4.out.aside HK5.out (fun q' e => by
                  subst e
                  exact ⟨_, _, HR4.out, by decide, by decide, by decide⟩)
                have HO5 : Hid (OwnS wr W3.heap.size (.slice ua un uc) F3) := HO4.out.keeps HK5.out (fun k' hk' e => by
                  have := (HO4.out.lt k' hk').1
                  have := HGl.out
                  omega)
                have a0 : wr.cell? ⟨bx, 0, none⟩ = some (.int .u64 (m : Int)) := by rw [cell_of_row _ _ _ _ _ _ HX5.out.xb]; rfl
                have a1 : wr.cell? ⟨bx, 1, none⟩ = some (.int .i64 q) := by rw [cell_of_row _ _ _ _ _ _ HX5.out.xb]; rfl
                have a2 : wr.cell? ⟨bx, 2, none⟩ = some (.int .u64 cp) := by rw [cell_of_row _ _ _ _ _ _ HX5.out.xb]; rfl
                have a3 : wr.cell? ⟨bx, 3, none⟩ = some (.bool nd) := by rw [cell_of_row _ _ _ _ _ _ HX5.out.xb]; rfl
                have a4 : wr.cell? ⟨bx, 4, none⟩ = some (.slice xa nn xc) := by rw [cell_of_row _ _ _ _ _ _ HX5.out.xb]; rfl
                clear HX4 HBk4 HO4 HR4 HR5 HK5 HL5
                go_wp2_with fail
                refine (HRf.out _ HX5.out.kv.below).mono ?_
                rintro e w6 ⟨u6, rfl, ho6, hb6⟩
                have HX6 := Lib.hid (HX5.out.go hb6)
                have HBk6 := Lib.hid (HBk5.out.below hb6)
                have HO6 := Lib.hid (HO5.out.below hb6)
                have HSm := Lib.hid (same3_any (HO6.out.rs HSq.out.2) (ho6.rs HSq.out.2))
                obtain ⟨va, vc, rfl⟩ := ho6.form
                clear ho6 hb6 a0 a1 a2 a3 a4 HX5 HBk5 HO5 HRf
                go_wp2_with fail
                refine HSm.out.mono ?_
                rintro e w7 ⟨rfl, hb7⟩
                have HX7 := Lib.hid (HX6.out.go hb7)
                have HBk7 := Lib.hid (HBk6.out.below hb7)
                have HO7 : Hid (OwnS w7 w.heap.size (.slice ua un uc) F3) := by
                  have h5 := HO6.out.below hb7
                  refine ⟨h5.1, ?_⟩
                  rcases h5.2 with h | ⟨g', cp', cur, e, hb, rest⟩
                  · exact .inl h
                  · exact .inr ⟨g', cp', cur, e, by have := HGl.out; have := HX7.out.kv.ge; omega, rest⟩
                have HKe := Lib.hid (bkQ_keep HBk7.out HO7.out HSq.out HSq.out HEl.out HX7.out.kv.below.size (fun k' hk' hin => by
                  have h5 := HE3.out k' hin
                  have h6 := (HO6.out.lt k' hk').1
                  omega))
                clear hb7 HSm HX6 HBk6 HO6 HO7 HBk7
                go_wp2_with fail
                refine HKe.out.mono ?_
                rintro e w8 ⟨rfl, lv8, wv8, held8, E8, hb8, hl8, _, hk8⟩
                have HX8 := Lib.hid (HX7.out.kept hb8 hl8 hk8)
                clear hb8 hl8 hk8 HKe HX7
                go_wp2_with fail
                go_roundw
                case rel => exact ⟨k + 1, by omega, rfl, _, HX8⟩
                case measure => simp [intOf]; omega
          · have jk : ¬ (k : Int) < 2 := by omega
            have HV3 := Lib.hid HKx.out.kv
            go_wp2_with fail
            go_roundw
            case rel => exact ⟨i + 1, by omega, by omega, rfl, HV3⟩
            case measure => simp [intOf]; omega
    · obtain ⟨lv, wv, held, E, hbk, hEl⟩ := HV.out.bk
      have HBk := Lib.hid hbk
      have HAp := Lib.hid (bkQ_apart hbk hEl)
      have HBl : Hid (∀ w', Keeps (fun k => k = w.heap.size ∨ ∃ e ∈ E, e.lv.ownBlock = some k) wr w' → Below w.heap.size w w') := fun w' hk => HV.out.below.trans (hk.below HV.out.below.size (fun i' _ e => by
        rcases e with e | ⟨x, hx, hq⟩
        · omega
        · exact ((HBk.out.ents x hx).l.lt i' hq).1))
      clear hbk hEl
      by_cases hin1 : i < n
      · have ji : (i : Int) < (n : Int) := by omega
        have ji2 : ¬ (i : Int) < 20 := by omega
        have dj2 : decide ((i : Int) < 20) = false := decide_eq_false ji2
        go_wp2_with fail
        refine HAp.out.mono ?_
        rintro e w9 ⟨rfl, hk9⟩
        have HB9 := Lib.hid (HBl.out _ hk9)
        clear hk9
        go_wp2_with fail
        refine (HK.out _).mono ?_
        rintro e w10 ⟨rfl, hb10⟩
        have HB10 : Hid (Below w.heap.size w w10) := HB9.out.trans (hb10.mono HB9.out.size)
        clear hb10
        go_wp2_with fail
        go_ret
        exact ⟨rfl, HB10.out⟩
      · have ji : ¬ (i : Int) < (n : Int) := by omega
        have dj : decide ((i : Int) < (n : Int)) = false := decide_eq_false ji
        go_wp2_with fail
        refine HAp.out.mono ?_
        rintro e w9 ⟨rfl, hk9⟩
        have HB9 := Lib.hid (HBl.out _ hk9)
        clear hk9
        go_wp2_with fail
        refine (HK.out _).mono ?_
        rintro e w10 ⟨rfl, hb10⟩
        have HB10 : Hid (Below w.heap.size w w10) := HB9.out.trans (hb10.mono HB9.out.size)
        clear hb10
        go_wp2_with fail
        go_ret
        exact ⟨rfl, HB10.out⟩
end Go.Proofs.Ytkhlkbgolonkkaa
