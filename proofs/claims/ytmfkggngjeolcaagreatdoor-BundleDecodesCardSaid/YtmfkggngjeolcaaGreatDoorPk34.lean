import Derived.Test.YtmfkggngjeolcaaGreatDoorPk31
import Derived.Test.YtmfkggngjeolcaaGreatDoorPk33
import Derived.Test.YtmfkggngjeolcaaGreatDoorPk24
import Derived.Deep.CutRange
import Derived.Deep.CutBlock
set_option linter.unusedSimpArgs false
set_option linter.unusedVariables false
set_option maxHeartbeats 32000000
set_option maxRecDepth 100000
namespace Go.Proofs.YtmfkggngjeolcaaGreatDoor
open Go.RowKit Bn Ek
theorem infoNt : (Tryz.prog.info? 3).map (fun i => (i.zero, i.size, i.bytes)) = some (some (.int .i64 0), 1, 8) := by kernel_rfl
end Go.Proofs.YtmfkggngjeolcaaGreatDoor
namespace Go.Proofs.YtmfkggngjeolcaaGreatDoor
open Go.RowKit Bn Dd
structure Rw1 {β : Type} (t : TypeId) (k : Nat) (enc : β → List Value) (rb : Nat) (raw : Value) (p : Q) (w0 : World) (r : R) (xs : List β) (v : Value) (w : World) : Prop where
 rk : Rk rb raw p w r w
 row : OwnG t k enc w w0.heap.size v xs
 lt : rb < w0.heap.size
 rw' : ∀ k, raw.ownBlock = some k → k < w0.heap.size
 fr : Keeps (fun k => k = rb) w0 w
structure Bw1 {β : Type} (t : TypeId) (k : Nat) (enc : β → List Value) (rb : Nat) (raw : Value) (p : Q) (w0 : World) (r : R) (xs : List β) (v : Value) (cs : List Value) (m : Nat) (w : World) : Prop where
 rd : Rw1 t k enc rb raw p w0 r xs v w
 bx : w.heap[m]? = some (.cells cs.toArray t (0, 0))
 hm : w0.heap.size ≤ m
 hv : v.ownBlock ≠ some m
section
variable {β : Type} {t : TypeId} {k : Nat} {enc : β → List Value} {rb : Nat} {raw : Value} {p : Q} {w0 : World} {r r' : R} {xs : List β} {v : Value} {cs : List Value} {m : Nat} {w w' : World}
theorem Rw1.call (h : Rw1 t k enc rb raw p w0 r xs v w) (hk : Rk rb raw p w r' w') : Rw1 t k enc rb raw p w0 r' xs v w' := by
 obtain ⟨_, _, _, _, _, hj⟩ := h.row.form;exact ⟨hk.here, h.row.keeps hk.fr (fun j e e2 => by have h1 := (hj j e).1; have h2 := h.lt; omega), h.lt, h.rw', h.fr.trans hk.fr (fun _ _ e => e)⟩
theorem Rw1.below (h : Rw1 t k enc rb raw p w0 r xs v w) (hb : Below w.heap.size w w') : Rw1 t k enc rb raw p w0 r xs v w' :=
 ⟨(h.rk.below hb).here, h.row.below hb, h.lt, h.rw', h.fr.trans (Keeps.of_below (S := fun k => k = rb) hb) (fun _ _ e => e)⟩
theorem Rw1.drew (h : Rw1 t k enc rb raw p w0 r xs v w) : Rw1 t k enc rb raw p w0 r xs v w.drew := h.below ⟨rfl, rfl, rfl, Nat.le_refl _, fun _ _ => rfl⟩
theorem Rw1.boxedAt (h : Rw1 t k enc rb raw p w0 r xs v w) (cs : List Value) {m : Nat} (hm : w.heap.size = m) : Bw1 t k enc rb raw p w0 r xs v cs m (w.alloc (.cells cs.toArray t)) := by
 subst hm;obtain ⟨_, _, _, _, _, hj⟩ := h.row.form;exact ⟨h.below ((Below.refl _ _).alloc (Nat.le_refl _) _), heap_alloc_new w _, h.fr.size, fun e => by have h1 := (hj _ e).2.1; omega⟩
theorem Bw1.lt (h : Bw1 t k enc rb raw p w0 r xs v cs m w) : m < w.heap.size := (Array.getElem?_eq_some_iff.1 h.bx).1
theorem Bw1.call (h : Bw1 t k enc rb raw p w0 r xs v cs m w) (hk : Rk rb raw p w r' w') : Bw1 t k enc rb raw p w0 r' xs v cs m w' :=
 ⟨h.rd.call hk, (hk.fr.block m h.lt (fun e => by have h1 := h.hm; have h2 := h.rd.lt; omega)).trans h.bx, h.hm, h.hv⟩
theorem Bw1.set (h : Bw1 t k enc rb raw p w0 r xs v cs m w) (i : Nat) (u : Value) : Bw1 t k enc rb raw p w0 r xs v (cs.set i u) m (w.setCell ⟨m, i, none⟩ u) := by
 have hk := Keeps.setCell w m i u;have hm := h.hm;have h1 := h.rd.lt;have hf := h.rd.fr;exact ⟨⟨h.rd.rk.keepsAny hk (fun e => by omega) (fun j e e2 => by have := h.rd.rw' j e; omega), h.rd.row.keeps hk (fun j e e2 => h.hv (by rw [e, e2])), h.rd.lt, h.rd.rw', ⟨hk.os.trans hf.os, hk.tape.trans hf.tape, hk.output.trans hf.output, Nat.le_trans hf.size hk.size, fun j hj hq => (hk.block j (Nat.lt_of_lt_of_le hj hf.size) (fun e => by omega)).trans (hf.block j hj hq)⟩⟩, box_set h.bx i u, hm, h.hv⟩
theorem Bw1.cell (h : Bw1 t k enc rb raw p w0 r xs v cs m w) (i : Nat) : w.cell? ⟨m, i, none⟩ = cs[i]? := box_cell h.bx i
theorem Bw1.free (h : Bw1 t k enc rb raw p w0 r xs v cs m w) (i : Nat) : w.frozen? ⟨m, i, none⟩ = false := box_free h.bx i
theorem Rw1.grown {x : β} {v' : Value} (h : Rw1 t k enc rb raw p w0 r xs v w) (hg : w.grownBy w' v.ownBlock) (ho : OwnG t k enc w' w0.heap.size v' (xs ++ [x])) : Rw1 t k enc rb raw p w0 r (xs ++ [x]) v' w' := by
 obtain ⟨_, _, _, _, _, hj⟩ := h.row.form;have hk1 : Keeps (fun j => v.ownBlock = some j) w w' := ⟨hg.os, hg.tape, hg.output, hg.size, fun i hi hn => hg.block i hi (fun e => hn e.symm)⟩
 have h1 := h.lt;have hf := h.fr;exact ⟨h.rk.keepsAny hk1 (fun e => by have := (hj _ e).1; omega) (fun j e e2 => by have h3 := h.rw' j e; have h4 := (hj _ e2).1; omega), ho, h.lt, h.rw', ⟨hk1.os.trans hf.os, hk1.tape.trans hf.tape, hk1.output.trans hf.output, Nat.le_trans hf.size hk1.size, fun j hj' hq => (hk1.block j (Nat.lt_of_lt_of_le hj' hf.size) (fun e => by have := (hj _ e).1; omega)).trans (hf.block j hj' hq)⟩⟩
end
theorem OwnG.kt2 {Z : Nat → Prop} {β : Type} {t : TypeId} {k : Nat} {enc : β → List Value} {w w' : World} {base : Nat} {v : Value} {xs : List β} (h : OwnG t k enc w base v xs) (hf : Keeps Z w w') (hz : ∀ j, Tagd w t j → ¬ Z j) : OwnG t k enc w' base v xs := by
 obtain ⟨_, _, _, _, _, hj⟩ := h.form;exact h.keeps hf (fun j e => hz j (hj j e).2.2)
theorem LaO.kb {Z : Nat} {S : Nat → Prop} {W W' : World} {v : SlV} {ls : List (List (Int × Int))} (h : LaO Z W v ls) (hk : Keeps S W W') (hn : ∀ j, Tagd W 75 j ∨ Tagd W 74 j → ¬ S j) : LaO Z W' v ls := by
 obtain ⟨us, ho, ht⟩ := h;exact ⟨us, ho.kt2 hk (fun j e => hn j (.inl e)), ht.imp (fun x y h => h.kt2 hk (fun j e => hn j (.inr e)))⟩
theorem LaO.low {Z Z' : Nat} {W : World} {v : SlV} {ls : List (List (Int × Int))} (h : LaO Z W v ls) (hz : Z' ≤ Z) : LaO Z' W v ls := by
 obtain ⟨us, ho, ht⟩ := h;exact ⟨us, ho.low hz, ht.imp (fun x y h => h.low hz)⟩
theorem ScO.kb {Z : Nat} {S : Nat → Prop} {W W' : World} {x : Int × SlV} {y : Sc} (h : ScO Z W x y) (hk : Keeps S W W') (hn : ∀ j, Tagd W 75 j ∨ Tagd W 74 j → ¬ S j) : ScO Z W' x y := ⟨h.1, h.2.kb hk hn⟩
structure Ls2 (rb m : Nat) (raw : Value) (p : Q) (w0 : World) (x : Int) (r : R) (lv : SlV) (us : List SlV) (ls : List (List (Int × Int))) (w : World) : Prop where
 rk : Rk rb raw p w r w
 bx : w.heap[m]? = some (.cells ([.int .i64 x, slE1 lv] : List Value).toArray 78 (0, 0))
 row : OwnG 75 1 slE w w0.heap.size (slE1 lv) us
 tw : T2 (fun u l => OwnG 74 2 stE w w0.heap.size (slE1 u) l) us ls
 hm : w0.heap.size ≤ m
 lt : rb < w0.heap.size
 rw' : ∀ k, raw.ownBlock = some k → k < w0.heap.size
 fr : Keeps (fun k => k = rb) w0 w
section
variable {rb m : Nat} {raw : Value} {p : Q} {w0 : World} {x : Int} {r r' : R} {lv : SlV} {us : List SlV} {ls : List (List (Int × Int))} {w w' : World}
theorem Ls2.mlt (h : Ls2 rb m raw p w0 x r lv us ls w) : m < w.heap.size := (Array.getElem?_eq_some_iff.1 h.bx).1
theorem Ls2.call (h : Ls2 rb m raw p w0 x r lv us ls w) (hk : Rk rb raw p w r' w') : Ls2 rb m raw p w0 x r' lv us ls w' := by
 have h1 := h.lt;have h2 := h.hm;have htg : ∀ t, Tagd w t rb → t = 138 := fun t ht => tag_same ht ⟨_, h.rk.blk⟩;exact ⟨hk.here, (hk.fr.block m h.mlt (fun e => by omega)).trans h.bx, h.row.kt2 hk.fr (fun j hj e => by subst e; exact absurd (htg _ hj) (by decide)), h.tw.imp (fun u l o => o.kt2 hk.fr (fun j hj e => by subst e; exact absurd (htg _ hj) (by decide))), h.hm, h.lt, h.rw', h.fr.trans hk.fr (fun _ _ e => e)⟩
theorem Ls2.over (h : Ls2 rb m raw p w0 x r lv us ls w) {xs : List (Int × Int)} {v : Value} (hr : Rw1 74 2 stE rb raw p w r' xs v w') : Ls2 rb m raw p w0 x r' lv us ls w' := by
 have h1 := h.lt;have h2 := h.hm;have hk := hr.fr;have htg : ∀ t, Tagd w t rb → t = 138 := fun t ht => tag_same ht ⟨_, h.rk.blk⟩;exact ⟨hr.rk, (hk.block m h.mlt (fun e => by omega)).trans h.bx, h.row.kt2 hk (fun j hj e => by subst e; exact absurd (htg _ hj) (by decide)), h.tw.imp (fun u l o => o.kt2 hk (fun j hj e => by subst e; exact absurd (htg _ hj) (by decide))), h.hm, h.lt, h.rw', h.fr.trans hk (fun _ _ e => e)⟩
theorem Ls2.cell (h : Ls2 rb m raw p w0 x r lv us ls w) : w.cell? ⟨m, 1, none⟩ = some (slE1 lv) := box_cell h.bx 1
theorem Ls2.cell0 (h : Ls2 rb m raw p w0 x r lv us ls w) : w.cell? ⟨m, 0, none⟩ = some (.int .i64 x) := box_cell h.bx 0
theorem Ls2.free (h : Ls2 rb m raw p w0 x r lv us ls w) (i : Nat) : w.frozen? ⟨m, i, none⟩ = false := box_free h.bx i
theorem Ls2.bel (h : Ls2 rb m raw p w0 x r lv us ls w) (hb : Below w.heap.size w w') : Ls2 rb m raw p w0 x r lv us ls w' :=
 ⟨(h.rk.below hb).here, (hb.block m h.mlt).trans h.bx, h.row.below hb, h.tw.imp (fun u l o => o.below hb), h.hm, h.lt, h.rw', h.fr.trans (Keeps.of_below (S := fun k => k = rb) hb) (fun _ _ e => e)⟩
theorem Ls2.kept (h : Ls2 rb m raw p w0 x r lv us ls w) (hg : w.grownBy w' (slE1 lv).ownBlock) : w'.heap[m]? = some (.cells ([.int .i64 x, slE1 lv] : List Value).toArray 78 (0, 0)) := by
 obtain ⟨_, _, _, _, _, hj⟩ := h.row.form;exact (hg.block m h.mlt (fun e => absurd (tag_same (hj _ e.symm).2.2 ⟨_, h.bx⟩) (by decide))).trans h.bx
theorem Ls2.grown {y lv' : SlV} {l : List (Int × Int)} (h : Ls2 rb m raw p w0 x r lv us ls w) (hy : OwnG 74 2 stE w w0.heap.size (slE1 y) l) (hg : w.grownBy w' (slE1 lv).ownBlock) (ho : OwnG 75 1 slE w' w0.heap.size (slE1 lv') (us ++ [y])) : Ls2 rb m raw p w0 x r lv' (us ++ [y]) (ls ++ [l]) (w'.setCell ⟨m, 1, none⟩ (slE1 lv')) := by
 obtain ⟨_, _, _, _, _, hj⟩ := h.row.form;have h1 := h.lt;have h2 := h.hm;have hk1 : Keeps (fun j => (slE1 lv).ownBlock = some j) w w' := ⟨hg.os, hg.tape, hg.output, hg.size, fun i hi hn => hg.block i hi (fun e => hn e.symm)⟩
 have hk2 := Keeps.setCell w' m 1 (slE1 lv');have hb1 := h.kept hg;have st : ∀ {u : SlV} {l : List (Int × Int)}, OwnG 74 2 stE w w0.heap.size (slE1 u) l → OwnG 74 2 stE (w'.setCell ⟨m, 1, none⟩ (slE1 lv')) w0.heap.size (slE1 u) l := fun o => (o.kt2 hk1 (fun j ht e => absurd (tag_same ht (hj _ e).2.2) (by decide))).kt2 hk2 (fun j ht e => by subst e; exact absurd (tag_same ht ⟨_, hb1⟩) (by decide));refine ⟨(h.rk.keepsAny hk1 (fun e => by have := (hj _ e).1; omega) (fun j e e2 => by have h3 := h.rw' j e; have h4 := (hj _ e2).1; omega)).keepsAny hk2 (fun e => by omega) (fun j e e2 => by have := h.rw' j e; omega), ?_, ho.kt2 hk2 (fun j ht e => by subst e; exact absurd (tag_same ht ⟨_, hb1⟩) (by decide)), T2.snoc (r := fun u l => OwnG 74 2 stE (w'.setCell ⟨m, 1, none⟩ (slE1 lv')) w0.heap.size (slE1 u) l) (st hy) (h.tw.imp (fun u l o => st o)), h.hm, h.lt, h.rw', ?_⟩
 ·have := box_set hb1 1 (slE1 lv')
  simpa using this
 ·have hf := h.fr;exact ⟨hk2.os.trans (hk1.os.trans hf.os), hk2.tape.trans (hk1.tape.trans hf.tape), hk2.output.trans (hk1.output.trans hf.output), Nat.le_trans hf.size (Nat.le_trans hk1.size hk2.size), fun j hj' hq => (hk2.block j (Nat.lt_of_lt_of_le hj' (Nat.le_trans hf.size hk1.size)) (fun e => by omega)).trans ((hk1.block j (Nat.lt_of_lt_of_le hj' hf.size) (fun e => by have := (hj _ e).1; omega)).trans (hf.block j hj' hq))⟩
end
theorem Rd1.over {rb ib m : Nat} {raw : Value} {p : Q} {w0 : World} {idx : Nat} {im : List Value} {x : Int} {r r' : R} {xs : List (Int × SlV)} {v : Value} {lv : SlV} {us : List SlV} {ls : List (List (Int × Int))} {w w' : World} (h : Rd1 78 2 scE rb ib raw p w0 idx im r xs v w) (hr : Ls2 rb m raw p w x r' lv us ls w') : Bx1 78 2 scE rb ib raw p w0 idx im r' xs v [.int .i64 x, slE1 lv] m w' := by
 obtain ⟨_, _, _, _, _, hj⟩ := h.row.form;have h1 := h.lt;exact ⟨⟨hr.rk, (hr.fr.block ib (Nat.lt_of_lt_of_le h.lt.2 h.size) h.ne).trans h.box, h.row.keeps hr.fr (fun j e e2 => by have := (hj j e).1; omega), h.ne, h.lt, h.rw', h.rn, h.fr.trans hr.fr (fun _ _ e => .inl e)⟩, hr.bx, Nat.le_trans h.size hr.hm, fun e => by have h2 := (hj _ e).2.1; have h3 := hr.hm; omega⟩
theorem Rd1.setIm {β : Type} {t : TypeId} {k : Nat} {enc : β → List Value} {rb ib : Nat} {raw : Value} {p : Q} {w0 : World} {idx : Nat} {im : List Value} {r : R} {xs : List β} {v : Value} {w : World} (h : Rd1 t k enc rb ib raw p w0 idx im r xs v w) {j : Nat} (hj0 : idx ≠ j) (u : Value) : Rd1 t k enc rb ib raw p w0 idx (im.set j u) r xs v (w.setCell ⟨ib, j, none⟩ u) := by
 obtain ⟨_, _, _, _, _, hj⟩ := h.row.form;have hk := Keeps.setCell w ib j u;have h1 := h.lt;refine ⟨h.rk.keepsAny hk (fun e => h.ne e.symm) (fun j e e2 => h.rn (by rw [e, e2])), ?_, h.row.keeps hk (fun j e e2 => by have := (hj j e).1; omega), h.ne, h.lt, h.rw', h.rn, h.fr.trans hk (fun _ _ e => .inr e)⟩;rw [List.set_comm _ _ (Ne.symm hj0)];exact box_set h.box j u
end Go.Proofs.YtmfkggngjeolcaaGreatDoor
namespace Go.Proofs.YtmfkggngjeolcaaGreatDoor
open Go.RowKit Bn Dd
open Ek (ntE nt_ok)
theorem wpList_appGx {β : Type} {enc : β → List Value} {w : World} {base : Nat} {ops : Array Oper} {rest : List Oper} {o : Oper} {a : Act} {Q : Exit → Act → World → Prop} (hgd : o.guard = none) (tS tE : TypeId) (s y : Operand)
  (ho : o.op = .call { callee := .builtin .append, args := #[s, y], argTypes := #[tS, tS] }) (k b : Nat) (z : Value) (hu : Tryz.prog.underlying tS = some (.slice tE)) (hi : (Tryz.prog.info? tE).map (fun i => (i.zero, i.size, i.bytes)) = some (some z, k, b)) (hk : 0 < k) (hzs : z.cells.size = k) (hb : b ≤ 4096) (he : EncOk k enc)
  {v : Value} {xs : List β} {x : β} {g cap : Nat} (hs : a.eval s = v) (hv : OwnG tE k enc w base v xs) (hy : a.eval y = .slice (some ⟨g, 0, none⟩) 1 cap) (hx : w.heap[g]? = some (.cells (enc x).toArray tE (0, 0))) (hlen : xs.length ≤ 4194304) (hbase : base ≤ w.heap.size)
  (h : ∀ va vc w', Hid (OwnG tE k enc w' base (.slice va (xs.length + 1) vc) (xs ++ [x])) → Hid (w.grownBy w' v.ownBlock) → Hid ((Value.slice va (xs.length + 1) vc).ownBlock = v.ownBlock ∨ (Value.slice va (xs.length + 1) vc).ownBlock = some w.heap.size) → wpList Tryz.prog ops Q rest (a.put o.dst (.slice va (xs.length + 1) vc)) w') : wpList Tryz.prog ops Q (o :: rest) a w :=
 wpList_plain hgd fun K hK => by
  obtain ⟨i, hi, hz0, hz1, hz2⟩ := info_parts hi;have hby : (xs.length + 1) * b ≤ 140737488355328 := by
   have : (xs.length + 1) * b ≤ 4194305 * 4096 := Nat.mul_le_mul (by omega) hb;omega
  obtain ⟨v', w', r1, r2, r3, _, r5⟩ := run_append_own_at (P := Tryz.prog) w base tS o.type tE i z k b hu hi hz0 hz1 hz2 hzs hk v xs.length (encs enc xs) hv ⟨g, 0, none⟩ 1 cap (enc x) (by rw [he.len]; omega) (fun j u hj => by
   rw [Addr.add_lit, Nat.zero_add, cell_of_row _ _ _ _ _ _ hx, ← Array.getElem?_toList];exact hj) (he.one x) (by unfold maxLen; omega) hby hbase
  have h2 : OwnG tE k enc w' base v' (xs ++ [x]) := by
   unfold OwnG;rw [List.length_append, encs_snoc];exact r2
  obtain ⟨va, vc, rfl, _⟩ := h2.form;rw [List.length_append] at h2 r1 r5;unfold Oper.wp execOp;simp only [ho, resolve, invoke, builtin, Sem.run_bind, Sem.run_pure, Result.andThen_ok, List.map_toArray, List.map_cons, List.map_nil, hs, hy, r1];exact hK _ _ (h va vc w' h2 r3 r5)
structure D3 (w0 : World) (v1 v2 v3 : Value) (x1 x2 x3 : List Nat) (w : World) : Prop where
 o1 : OwnG 3 1 ntE w w0.heap.size v1 x1
 o2 : OwnG 3 1 ntE w w0.heap.size v2 x2
 o3 : OwnG 3 1 ntE w w0.heap.size v3 x3
 n12 : ∀ k, v1.ownBlock = some k → v2.ownBlock ≠ some k
 n23 : ∀ k, v2.ownBlock = some k → v3.ownBlock ≠ some k
 n31 : ∀ k, v3.ownBlock = some k → v1.ownBlock ≠ some k
 bl : Below w0.heap.size w0 w
section
variable {w0 : World} {v1 v2 v3 : Value} {x1 x2 x3 : List Nat} {w w' : World}
theorem D3.rot (h : D3 w0 v1 v2 v3 x1 x2 x3 w) : D3 w0 v2 v3 v1 x2 x3 x1 w := ⟨h.o2, h.o3, h.o1, h.n23, h.n31, h.n12, h.bl⟩
theorem D3.below (h : D3 w0 v1 v2 v3 x1 x2 x3 w) (hb : Below w.heap.size w w') : D3 w0 v1 v2 v3 x1 x2 x3 w' := ⟨h.o1.below hb, h.o2.below hb, h.o3.below hb, h.n12, h.n23, h.n31, h.bl.trans (hb.mono h.bl.size)⟩
theorem D3.call (h : D3 w0 v1 v2 v3 x1 x2 x3 w) {rb : Nat} (hr : w0.heap.size ≤ rb) (ht : Tagd w 138 rb) (hk : Keeps (fun k => k = rb) w w') : D3 w0 v1 v2 v3 x1 x2 x3 w' := by
 have hn : ∀ j, Tagd w 3 j → ¬ j = rb := fun j hj e => by subst e; exact absurd (tag_same hj ht) (by decide)
 exact ⟨h.o1.kt2 hk hn, h.o2.kt2 hk hn, h.o3.kt2 hk hn, h.n12, h.n23, h.n31, h.bl.trans (Keeps.below hk h.bl.size (fun k _ e => by omega))⟩
theorem D3.app {v' : Value} {y : Nat} (h : D3 w0 v1 v2 v3 x1 x2 x3 w) (ho : OwnG 3 1 ntE w' w0.heap.size v' (x1 ++ [y])) (hg : w.grownBy w' v1.ownBlock) (hl : v'.ownBlock = v1.ownBlock ∨ v'.ownBlock = some w.heap.size) : D3 w0 v' v2 v3 (x1 ++ [y]) x2 x3 w' := by
 obtain ⟨_, _, _, _, _, h1⟩ := h.o1.form;obtain ⟨_, _, _, _, _, h2⟩ := h.o2.form;obtain ⟨_, _, _, _, _, h3⟩ := h.o3.form;have hk1 : Keeps (fun j => v1.ownBlock = some j) w w' := ⟨hg.os, hg.tape, hg.output, hg.size, fun i hi hn => hg.block i hi (fun e => hn e.symm)⟩
 refine ⟨ho, h.o2.keeps hk1 (fun j e e2 => h.n12 j e2 e), h.o3.keeps hk1 (fun j e e2 => h.n31 j e e2), fun k e e2 => ?_, h.n23, fun k e e2 => ?_, h.bl.grown hg h.bl.size (fun k e => (h1 k e).1)⟩
 ·rcases hl with hl | hl
  ·exact h.n12 k (by rw [← hl]; exact e) e2
  ·rw [hl] at e
   cases e
   have := (h2 _ e2).2.1;omega
 ·rcases hl with hl | hl
  ·exact h.n31 k e (by rw [← hl]; exact e2)
  ·rw [hl] at e2
   cases e2
   have := (h3 _ e).2.1;omega
end
theorem Rk.grownI {rb : Nat} {raw : Value} {p : Q} {r : R} {w9 w w' : World} {row : Option Nat} {Z : Nat} (h : Rk rb raw p w9 r w) (hg : w.grownBy w' row) (hr : ∀ k, row = some k → Z ≤ k ∧ k < w.heap.size ∧ Tagd w 3 k) (hw : ∀ k, raw.ownBlock = some k → k < Z) : Rk rb raw p w' r w' := by
 have hk1 : Keeps (fun j => row = some j) w w' := ⟨hg.os, hg.tape, hg.output, hg.size, fun i hi hn => hg.block i hi (fun e => hn e.symm)⟩
 exact h.keepsAny hk1 (fun e => absurd (tag_same (hr _ e).2.2 ⟨_, h.blk⟩) (by decide)) (fun j e e2 => by have := hw j e; have := (hr _ e2).1; omega)
def X1 (bs : List Nat) (j : Nat) : List Nat := (List.range j).map (fun i => (entN bs i).f)
def X2 (bs : List Nat) (j : Nat) : List Nat := (List.range j).map (fun i => (entN bs i).l)
def X3 (bs : List Nat) (j : Nat) : List Nat := (List.range j).map (fun i => (entN bs i).c)
theorem X1_len (bs : List Nat) (j : Nat) : (X1 bs j).length = j := by simp [X1]
theorem X2_len (bs : List Nat) (j : Nat) : (X2 bs j).length = j := by simp [X2]
theorem X3_len (bs : List Nat) (j : Nat) : (X3 bs j).length = j := by simp [X3]
theorem X1_next (bs : List Nat) (j : Nat) : X1 bs (j + 1) = X1 bs j ++ [(entN bs j).f] := by simp [X1, List.range_succ]
theorem X2_next (bs : List Nat) (j : Nat) : X2 bs (j + 1) = X2 bs j ++ [(entN bs j).l] := by simp [X2, List.range_succ]
theorem X3_next (bs : List Nat) (j : Nat) : X3 bs (j + 1) = X3 bs j ++ [(entN bs j).c] := by simp [X3, List.range_succ]
def DirQ (w : World) (bs : List Nat) (e : Ending) (w' : World) : Prop := (∃ j, j < 8 ∧ (∀ i, i < j → okF bs i) ∧ ¬ okF bs j ∧ e = .returned (.tuple #[.slice none 0 0, .slice none 0 0, .slice none 0 0, .int .i64 ((24 + 16 * j : Nat) : Int)]) ∧ Below w.heap.size w w') ∨ ((∀ i, i < 8 → okF bs i) ∧ ∃ a1 c1 a2 c2 a3 c3, e = .returned (.tuple #[.slice a1 8 c1, .slice a2 8 c2, .slice a3 8 c3, .int .i64 (-1)]) ∧ D3 w (.slice a1 8 c1) (.slice a2 8 c2) (.slice a3 8 c3) (X1 bs 8) (X2 bs 8) (X3 bs 8) w')
theorem ddirQ {w : World} {v : Value} {bs : List Nat} (hs : Sl w v bs) (h160 : 160 ≤ bs.length) (hsz : bs.length ≤ 1099511627776) : Calls Tryz.prog 68 #[v] w (DirQ w bs) := by
 obtain ⟨ao, cap, rfl, q1, q2, q3, q4, q5⟩ := id hs;clear q3 q4 q5;unfold maxLen at q2;have HSl : Hid (∀ W, Below w.heap.size w W → Sl W (.slice ao bs.length cap) bs) := fun W hW => hs.below hW;have hsm : ∀ z ∈ bs, z < 256 := hs.small;have hst : ∀ a k, a + k ≤ 160 → numR ⟨bs, 160⟩ k ⟨a, -1⟩ = (Pl.num k (bs.drop a), ⟨a + k, -1⟩) := fun a k hk => by
  unfold numR;rw [if_pos (show (-1 : Int) < 0 by decide), if_pos hk]
 have HEn : Hid (∀ j, (entN bs j).f < 4294967296 ∧ (entN bs j).l < 4294967296 ∧ (entN bs j).c < 4294967296) := fun j => ⟨Pl.acc_lt (fun z hz => hsm z (List.mem_of_mem_drop hz)) 0 4, Pl.acc_lt (fun z hz => hsm z (List.mem_of_mem_drop hz)) 0 4, Pl.acc_lt (fun z hz => hsm z (List.mem_of_mem_drop hz)) 0 4⟩
 have HNx : Hid (∀ j, nextF bs j ≤ 8589934592) := fun j => by
  cases j with
  | zero => show 160 ≤ _; omega
  | succ j => show (entN bs j).f + (entN bs j).l ≤ _; have := HEn.out j; omega
 have HN2 : Hid (∀ rb j, j < 8 → ∀ W w9, Rk rb (.slice ao bs.length cap) ⟨bs, 160⟩ w9 ⟨24 + 16 * j, -1⟩ W → Calls Tryz.prog 106 #[.pointer (some ⟨rb, 0, none⟩), .int .i64 2] W fun e w' => e = .returned (.int .i64 ((entN bs j).a : Nat)) ∧ Rk rb (.slice ao bs.length cap) ⟨bs, 160⟩ w9 ⟨26 + 16 * j, -1⟩ w') := fun rb j hj W w9 hW => by
  have h9 := dnum2Q hW;rw [hst _ 2 (by omega), show 24 + 16 * j + 2 = 26 + 16 * j by omega] at h9;exact h9
 have HN3 : Hid (∀ rb j, j < 8 → ∀ W w9, Rk rb (.slice ao bs.length cap) ⟨bs, 160⟩ w9 ⟨26 + 16 * j, -1⟩ W → Calls Tryz.prog 106 #[.pointer (some ⟨rb, 0, none⟩), .int .i64 2] W fun e w' => e = .returned (.int .i64 ((entN bs j).b : Nat)) ∧ Rk rb (.slice ao bs.length cap) ⟨bs, 160⟩ w9 ⟨28 + 16 * j, -1⟩ w') := fun rb j hj W w9 hW => by
  have h9 := dnum2Q hW;rw [hst _ 2 (by omega), show 26 + 16 * j + 2 = 28 + 16 * j by omega] at h9;exact h9
 have HN4 : Hid (∀ rb j, j < 8 → ∀ W w9, Rk rb (.slice ao bs.length cap) ⟨bs, 160⟩ w9 ⟨28 + 16 * j, -1⟩ W → Calls Tryz.prog 106 #[.pointer (some ⟨rb, 0, none⟩), .int .i64 4] W fun e w' => e = .returned (.int .i64 ((entN bs j).f : Nat)) ∧ Rk rb (.slice ao bs.length cap) ⟨bs, 160⟩ w9 ⟨32 + 16 * j, -1⟩ w') := fun rb j hj W w9 hW => by
  have h9 := dnum4Q hW;rw [hst _ 4 (by omega), show 28 + 16 * j + 4 = 32 + 16 * j by omega] at h9;exact h9
 have HN5 : Hid (∀ rb j, j < 8 → ∀ W w9, Rk rb (.slice ao bs.length cap) ⟨bs, 160⟩ w9 ⟨32 + 16 * j, -1⟩ W → Calls Tryz.prog 106 #[.pointer (some ⟨rb, 0, none⟩), .int .i64 4] W fun e w' => e = .returned (.int .i64 ((entN bs j).l : Nat)) ∧ Rk rb (.slice ao bs.length cap) ⟨bs, 160⟩ w9 ⟨36 + 16 * j, -1⟩ w') := fun rb j hj W w9 hW => by
  have h9 := dnum4Q hW;rw [hst _ 4 (by omega), show 32 + 16 * j + 4 = 36 + 16 * j by omega] at h9;exact h9
 have HN6 : Hid (∀ rb j, j < 8 → ∀ W w9, Rk rb (.slice ao bs.length cap) ⟨bs, 160⟩ w9 ⟨36 + 16 * j, -1⟩ W → Calls Tryz.prog 106 #[.pointer (some ⟨rb, 0, none⟩), .int .i64 4] W fun e w' => e = .returned (.int .i64 ((entN bs j).c : Nat)) ∧ Rk rb (.slice ao bs.length cap) ⟨bs, 160⟩ w9 ⟨40 + 16 * j, -1⟩ w') := fun rb j hj W w9 hW => by
  have h9 := dnum4Q hW;rw [hst _ 4 (by omega), show 36 + 16 * j + 4 = 40 + 16 * j by omega] at h9;exact h9
 have HRn : Hid (∀ W j, Below w.heap.size w W → j < 8 → Rk W.heap.size (.slice ao bs.length cap) ⟨bs, 160⟩ (W.alloc (.cells (rdV (.slice ao bs.length cap) ⟨bs, 160⟩ ⟨24 + 16 * j, -1⟩) 138)) ⟨24 + 16 * j, -1⟩ (W.alloc (.cells (rdV (.slice ao bs.length cap) ⟨bs, 160⟩ ⟨24 + 16 * j, -1⟩) 138))) := fun W j hW hj => rk_new (hs.below hW) (by omega) hsz (by omega) h160;have HRl : Hid (∀ k, (Value.slice ao bs.length cap).ownBlock = some k → k < w.heap.size) := raw_lt hs (by omega);have H160 : Hid (160 ≤ bs.length ∧ bs.length ≤ 1099511627776) := ⟨h160, hsz⟩
 have H0 : Hid (D3 w (.slice none 0 0) (.slice none 0 0) (.slice none 0 0) (X1 bs 0) (X2 bs 0) (X3 bs 0) w) := ⟨OwnG.nil _ _ _ _ _, OwnG.nil _ _ _ _ _, OwnG.nil _ _ _ _ _, (fun k e => nomatch e), (fun k e => nomatch e), (fun k e => nomatch e), Below.refl _ _⟩
 clear hs hsm hst h160 hsz;go_enter Tryz.func68, Tryz.ntmps68
 go_wp2_with fail
 go_loopw [6, 7, 8, 9, 10] (fun l1 l2 l3 nv iv wr => ∃ (j : Nat) (a1 a2 a3 : Option Addr) (c1 c2 c3 : Nat), j ≤ 8 ∧ iv = .int .i64 (j : Int) ∧ nv = .int .i64 (nextF bs j : Int) ∧ l1 = .slice a1 j c1 ∧ l2 = .slice a2 j c2 ∧ l3 = .slice a3 j c3 ∧ Hid (∀ i, i < j → okF bs i) ∧ Hid (D3 w (.slice a1 j c1) (.slice a2 j c2) (.slice a3 j c3) (X1 bs j) (X2 bs j) (X3 bs j) wr)) (fun _ _ _ _ iv _ => 8 - (intOf iv).toNat)
 case atStart => exact ⟨0, none, none, none, 0, 0, 0, Nat.zero_le _, rfl, rfl, rfl, rfl, rfl, Lib.hid (fun i hi => by omega), H0⟩
 case round =>
  clear H0;obtain ⟨j, a1, a2, a3, c1, c2, c3, hj, rfl, rfl, rfl, rfl, rfl, HOk, HD⟩ := hrel
  by_cases hj8 : j < 8
  ·have jj : (j : Int) < 8 := by omega
   have hw1 : IntKind.i64.wrap ((j : Int) + 1) = ((j + 1 : Nat) : Int) := by rw [IntKind.wrap_i64]; omega
   have hw2 : IntKind.i64.wrap (16 * (j : Int)) = ((16 * j : Nat) : Int) := by rw [IntKind.wrap_i64]; omega
   have hw3 : IntKind.i64.wrap (24 + ((16 * j : Nat) : Int)) = ((24 + 16 * j : Nat) : Int) := by rw [IntKind.wrap_i64]; omega
   have hw3i : IntKind.i64.wrap (24 + 16 * (j : Int)) = 24 + 16 * (j : Int) := by rw [IntKind.wrap_i64]; omega
   have HK2 := Lib.hid (HN2.out wr.heap.size j hj8);have HK3 := Lib.hid (HN3.out wr.heap.size j hj8);have HK4 := Lib.hid (HN4.out wr.heap.size j hj8);have HK5 := Lib.hid (HN5.out wr.heap.size j hj8);have HK6 := Lib.hid (HN6.out wr.heap.size j hj8);obtain ⟨wA, hwA⟩ : ∃ x, x = wr := ⟨_, rfl⟩
   subst hwA;obtain ⟨W1, hW1⟩ : ∃ W, wA.alloc (.cells #[.slice ao bs.length cap, .int .i64 (24 + 16 * (j : Int)), .int .i64 160, .int .i64 (-1)] 138) = W := ⟨_, rfl⟩
   have hW2 : wA.alloc (.cells (rdV (.slice ao bs.length cap) ⟨bs, 160⟩ ⟨24 + 16 * j, -1⟩) 138) = W1 := by
    rw [← hW1];unfold rdV;simp only [show ((24 + 16 * j : Nat) : Int) = 24 + 16 * (j : Int) by omega]
    rfl
   have hR0 := HRn.out wA j HD.out.bl hj8;have hT0 : Tagd (wA.alloc (.cells (rdV (.slice ao bs.length cap) ⟨bs, 160⟩ ⟨24 + 16 * j, -1⟩) 138)) 138 wA.heap.size := ⟨_, heap_alloc_new wA _⟩
   have hD0 := HD.out.below (w' := wA.alloc (.cells (rdV (.slice ao bs.length cap) ⟨bs, 160⟩ ⟨24 + 16 * j, -1⟩) 138)) ((Below.refl _ _).alloc (Nat.le_refl _) _);rw [hW2] at hR0 hT0 hD0;have HR0 := Lib.hid hR0;have HT0 := Lib.hid hT0;have HD0 := Lib.hid hD0;have HZ : Hid (w.heap.size ≤ wA.heap.size) := HD.out.bl.size;clear hR0 hT0 hD0 hW2 HD;obtain ⟨g, hg⟩ : ∃ g, Ek.begD j (nextF bs j) = g := ⟨_, rfl⟩
   have HOkj : Hid (okF bs j ↔ ((entN bs j).a = j + 1 ∧ (entN bs j).b = 0 ∧ (entN bs j).f = g ∧ (entN bs j).f + (entN bs j).l ≤ bs.length ∧ (j = 7 → (entN bs j).f + (entN bs j).l = bs.length))) := show _ ↔ _ by rw [← hg]; exact Iff.rfl
   have HNj := HNx.out j;have HEj := Lib.hid (HEn.out j);have HX1 := Lib.hid (X1_next bs j);have HX2 := Lib.hid (X2_next bs j);have HX3 := Lib.hid (X3_next bs j);have L1 : Hid ((X1 bs j).length = j) := X1_len bs j;have L2 : Hid ((X2 bs j).length = j) := X2_len bs j;have L3 : Hid ((X3 bs j).length = j) := X3_len bs j;generalize X1 bs j = y1 at *;generalize X2 bs j = y2 at *;generalize X3 bs j = y3 at *;have HNx1 : Hid (nextF bs (j + 1) = (entN bs j).f + (entN bs j).l) := rfl;have hle := Ek.begD_le j (nextF bs j);generalize nextF bs j = nx at *;generalize (entN bs j).a = ka at *;generalize (entN bs j).b = kb at *;generalize (entN bs j).f = kf at *;generalize (entN bs j).l = kl at *;generalize (entN bs j).c = kc at *;rw [hg] at hle;have hu8 : Bn.upN nx 8 ≤ 4611686018427387904 := by
    unfold Bn.upN
    split <;> omega
   have HU8 := Lib.hid (fun W => kup8 (a := nx) (by omega) W);have HU4 := Lib.hid (fun W => kup4 (a := Bn.upN nx 8) hu8 W);have HG : Hid (g = if j = 7 then Bn.upN (Bn.upN nx 8) 4096 else Bn.upN nx 8) := show _ = _ by rw [← hg]; rfl
   clear hg hu8 hle;generalize Bn.upN (Bn.upN nx 8) 4096 = u4 at *;generalize Bn.upN nx 8 = u8 at *;go_wp2_with fail
   refine (HK2.out _ _ HR0.out).mono ?_;rintro e w2 ⟨rfl, h2⟩;have H2 := Lib.hid h2;clear h2 HK2 HR0 hW1;go_wp2_with fail
   refine (HK3.out _ _ H2.out).mono ?_;rintro e w3 ⟨rfl, h2⟩;have H3 := Lib.hid h2;clear h2 HK3 H2;go_wp2_with fail
   refine (HK4.out _ _ H3.out).mono ?_;rintro e w4 ⟨rfl, h2⟩;have H4 := Lib.hid h2;clear h2 HK4 H3;go_wp2_with fail
   refine (HK5.out _ _ H4.out).mono ?_;rintro e w5 ⟨rfl, h2⟩;have H5 := Lib.hid h2;have HD5 := Lib.hid (HD0.out.call HZ.out HT0.out h2.fr);clear h2 HK5 H4 HD0 HT0;go_wp2_with fail
   refine (HU8.out _).mono ?_;rintro e w6 ⟨rfl, hw⟩;have hw := hw.symm;subst hw;go_upto_if 37 with fail
   go_cut [9] from 16 to 91 (fun y wx => y = .int .i64 (g : Int) ∧ wx = w5)
   case first =>
    by_cases h7 : j = 7
    ·have hg := HG.out;rw [if_pos h7] at hg;subst hg;have j7 : ((j : Int) == 7) = true := by simp; omega
     clear h7;go_wp2_with fail
     refine (HU4.out _).mono ?_;rintro e w7 ⟨rfl, hw⟩;have hw := hw.symm;subst hw;go_wp2_with fail
     go_meet
     exact ⟨rfl, rfl⟩
    ·have hg := HG.out;rw [if_neg h7] at hg;subst hg;have j7 : ((j : Int) == 7) = false := by simp; omega
     clear h7;go_wp2_with fail
     go_meet
     exact ⟨rfl, rfl⟩
   case rest =>
   obtain ⟨rfl, hw⟩ := hcut;have hw := hw.symm;subst hw;clear HU8 HU4 HG HNj;obtain ⟨e1, e2, e3⟩ := HEj.out;have hN1 := H160.out.1;have hN2 := H160.out.2;obtain ⟨N, hNN⟩ : ∃ N, bs.length = N := ⟨_, rfl⟩
   obtain ⟨bb, hbb⟩ : ∃ bb, decide (¬ (ka = j + 1 ∧ kb = 0 ∧ kf = g ∧ kf + kl ≤ bs.length ∧ (j = 7 → kf + kl = bs.length))) = bb := ⟨_, rfl⟩
   have HBB := Lib.hid hbb;clear hbb hNN;have hs1 : IntKind.i64.wrap ((bs.length : Int) - (kf : Int)) = (bs.length : Int) - (kf : Int) := by rw [IntKind.wrap_i64]; omega
   have hs2 : IntKind.i64.wrap ((kf : Int) + (kl : Int)) = ((kf + kl : Nat) : Int) := by rw [IntKind.wrap_i64]; omega
   go_upto_region 14 with fail
   go_cut [72] from 16 to 91 (fun y wx => y = .bool bb ∧ wx = w5)
   case first =>
    have hT : ¬ (ka = j + 1 ∧ kb = 0 ∧ kf = g ∧ kf + kl ≤ bs.length ∧ (j = 7 → kf + kl = bs.length)) → bb = true := fun h => by rw [← HBB.out]; exact decide_eq_true h
    have hF : (ka = j + 1 ∧ kb = 0 ∧ kf = g ∧ kf + kl ≤ bs.length ∧ (j = 7 → kf + kl = bs.length)) → bb = false := fun h => by rw [← HBB.out]; exact decide_eq_false (fun k => k h)
    have HhT := Lib.hid hT;have HhF := Lib.hid hF;clear hT hF
    by_cases p1 : ka = j + 1
    ·have d1 : ((ka : Int) != (j : Int) + 1) = false := by rw [p1]; simp
     by_cases p2 : kb = 0
     ·have d2 : ((kb : Int) != 0) = false := by rw [p2]; rfl
      by_cases p3 : kf = g
      ·have d3 : ((kf : Int) != (g : Int)) = false := by rw [p3]; simp
       by_cases p4 : kf + kl ≤ bs.length
       ·have d4 : decide ((kl : Int) > (bs.length : Int) - (kf : Int)) = false := decide_eq_false (by omega)
        by_cases p5 : j = 7
        ·have d5 : ((j : Int) == 7) = true := by simp; omega
         by_cases p6 : kf + kl = bs.length
         ·have d6 : ((kf : Int) + (kl : Int) != (bs.length : Int)) = false := by simp; omega
          have hb := HhF.out ⟨p1, p2, p3, p4, fun _ => p6⟩;subst hb;clear p1 p2 p3 p5 p6 HhT HhF;go_wp2_with fail
          go_meet
          exact ⟨rfl, rfl⟩
         ·have d6 : ((kf : Int) + (kl : Int) != (bs.length : Int)) = true := by simp; omega
          have hb := HhT.out (fun h => p6 (h.2.2.2.2 p5));subst hb;clear p1 p2 p3 p5 p6 HhT HhF;go_wp2_with fail
          go_meet
          exact ⟨rfl, rfl⟩
        ·have d5 : ((j : Int) == 7) = false := by simp; omega
         have hb := HhF.out ⟨p1, p2, p3, p4, fun h => absurd h p5⟩;subst hb;clear p1 p2 p3 p5 HhT HhF;go_wp2_with fail
         go_meet
         exact ⟨rfl, rfl⟩
       ·have d4 : decide ((kl : Int) > (bs.length : Int) - (kf : Int)) = true := decide_eq_true (by omega);have hb := HhT.out (fun h => p4 h.2.2.2.1);subst hb;clear p1 p2 p3 HhT HhF;go_wp2_with fail
        go_meet
        exact ⟨rfl, rfl⟩
      ·have d3 : ((kf : Int) != (g : Int)) = true := by simp; omega
       have hb := HhT.out (fun h => p3 h.2.2.1);subst hb;clear p1 p2 p3 HhT HhF;go_wp2_with fail
       go_meet
       exact ⟨rfl, rfl⟩
     ·have d2 : ((kb : Int) != 0) = true := by simp; omega
      have hb := HhT.out (fun h => p2 h.2.1);subst hb;clear p1 p2 HhT HhF;go_wp2_with fail
      go_meet
      exact ⟨rfl, rfl⟩
    ·have d1 : ((ka : Int) != (j : Int) + 1) = true := by simp; omega
     have hb := HhT.out (fun h => p1 h.1);subst hb;clear p1 HhT HhF;go_wp2_with fail
     go_meet
     exact ⟨rfl, rfl⟩
   case rest =>
   obtain ⟨rfl, hw⟩ := hcut;have hw := hw.symm;subst hw;clear hs1
   cases bb with
   | true =>
    have HFin : Hid (DirQ w bs (.returned (.tuple #[.slice none 0 0, .slice none 0 0, .slice none 0 0, .int .i64 ((24 + 16 * j : Nat) : Int)])) w5) := .inl ⟨j, hj8, HOk.out, fun h => of_decide_eq_true HBB.out (HOkj.out.1 h), rfl, HD5.out.bl⟩;clear HD5 H5 HBB HOkj;go_wp2_with fail
    refine bodyPost_ret (v := .tuple #[.slice none 0 0, .slice none 0 0, .slice none 0 0, .int .i64 (24 + 16 * (j : Int))]) (by simp [results, Tryz.results68, go_sem]) rfl ?_;have h9 := HFin.out
    rwa [show ((24 + 16 * j : Nat) : Int) = 24 + 16 * (j : Int) by omega] at h9
   | false =>
    have HOk2 : Hid (∀ i, i < j + 1 → okF bs i) := fun i hi => by
     by_cases e : i = j
     ·subst e;exact HOkj.out.2 (Classical.not_not.1 (of_decide_eq_false HBB.out))
     ·exact HOk.out i (by omega)
    clear HBB HOkj HOk;have HA1 := Lib.hid (HD5.out.below (w' := w5.alloc (.cells #[.int .i64 (kf : Int)] 3)) ((Below.refl _ _).alloc (Nat.le_refl _) _));have HR1 := Lib.hid (H5.out.below (w' := w5.alloc (.cells #[.int .i64 (kf : Int)] 3)) ((Below.refl _ _).alloc (Nat.le_refl _) _));have HB1 : Hid ((w5.alloc (.cells #[.int .i64 (kf : Int)] 3)).heap[w5.heap.size]? = some (.cells (ntE kf).toArray 3 (0, 0))) := heap_alloc_new w5 _;clear HD5 H5;go_upto_region 17 with (at_builtin; refine wpList_appGx (enc := ntE) (x := kf) (xs := y1) rfl 82 3 (.tmp 76) (.tmp 78) rfl 1 8 _ Tryz.underlying82 infoNt (by decide) rfl (by decide) nt_ok (by rfl) HA1.out.o1 (by rfl) HB1.out (by rw [L1.out]; omega) HA1.out.bl.size ?_; intro va vc w20 H20 HG20 HL20; rw [L1.out])
    rw [L1.out] at H20 HL20;have hI1 : ∀ k, (Value.slice a1 j c1).ownBlock = some k → w.heap.size ≤ k ∧ k < (w5.alloc (.cells #[.int .i64 (kf : Int)] 3)).heap.size ∧ Tagd (w5.alloc (.cells #[.int .i64 (kf : Int)] 3)) 3 k := HA1.out.o1.form.choose_spec.choose_spec.2.2.2;have HD6 := Lib.hid (HA1.out.app H20.out HG20.out HL20.out).rot;have HR6 := Lib.hid (HR1.out.grownI HG20.out hI1 HRl.out);clear HA1 HR1 HB1 H20 HG20 HL20 hI1;have HA2 := Lib.hid (HD6.out.below (w' := w20.alloc (.cells #[.int .i64 (kl : Int)] 3)) ((Below.refl _ _).alloc (Nat.le_refl _) _));have HR2 := Lib.hid (HR6.out.below (w' := w20.alloc (.cells #[.int .i64 (kl : Int)] 3)) ((Below.refl _ _).alloc (Nat.le_refl _) _));have HB2 : Hid ((w20.alloc (.cells #[.int .i64 (kl : Int)] 3)).heap[w20.heap.size]? = some (.cells (ntE kl).toArray 3 (0, 0))) := heap_alloc_new w20 _;clear HD6 HR6;go_upto_region 18 with (at_builtin; refine wpList_appGx (enc := ntE) (x := kl) (xs := y2) rfl 82 3 (.tmp 80) (.tmp 82) rfl 1 8 _ Tryz.underlying82 infoNt (by decide) rfl (by decide) nt_ok (by rfl) HA2.out.o1 (by rfl) HB2.out (by rw [L2.out]; omega) HA2.out.bl.size ?_; intro vb vd w21 H21 HG21 HL21; rw [L2.out])
    rw [L2.out] at H21 HL21;have hI2 : ∀ k, (Value.slice a2 j c2).ownBlock = some k → w.heap.size ≤ k ∧ k < (w20.alloc (.cells #[.int .i64 (kl : Int)] 3)).heap.size ∧ Tagd (w20.alloc (.cells #[.int .i64 (kl : Int)] 3)) 3 k := HA2.out.o1.form.choose_spec.choose_spec.2.2.2;have HD7 := Lib.hid (HA2.out.app H21.out HG21.out HL21.out).rot;have HR7 := Lib.hid (HR2.out.grownI HG21.out hI2 HRl.out);clear HA2 HR2 HB2 H21 HG21 HL21 hI2;go_wp2_with fail
    refine (HK6.out _ _ HR7.out).mono ?_;rintro e w22 ⟨rfl, h22⟩;have HD8 := Lib.hid (HD7.out.call (Nat.le_trans HZ.out (Nat.le_refl _)) ⟨_, HR7.out.blk⟩ h22.fr);clear h22 HK6 HR7 HD7;have HA3 := Lib.hid (HD8.out.below (w' := w22.alloc (.cells #[.int .i64 (kc : Int)] 3)) ((Below.refl _ _).alloc (Nat.le_refl _) _));have HB3 : Hid ((w22.alloc (.cells #[.int .i64 (kc : Int)] 3)).heap[w22.heap.size]? = some (.cells (ntE kc).toArray 3 (0, 0))) := heap_alloc_new w22 _;clear HD8;go_upto_region 19 with (at_builtin; refine wpList_appGx (enc := ntE) (x := kc) (xs := y3) rfl 82 3 (.tmp 84) (.tmp 87) rfl 1 8 _ Tryz.underlying82 infoNt (by decide) rfl (by decide) nt_ok (by rfl) HA3.out.o1 (by rfl) HB3.out (by rw [L3.out]; omega) HA3.out.bl.size ?_; intro ve vf w23 H23 HG23 HL23; rw [L3.out])
    rw [L3.out] at H23 HL23;have HD9 := Lib.hid (HA3.out.app H23.out HG23.out HL23.out).rot;clear HA3 HB3 H23 HG23 HL23;rw [← HX1.out, ← HX2.out, ← HX3.out] at HD9;go_wp2_with fail
    go_roundw
    case rel => exact ⟨j + 1, va, vb, ve, vc, vd, vf, by omega, rfl, by rw [HNx1.out, Int.natCast_add], rfl, rfl, rfl, HOk2, HD9⟩
    case measure => simp [intOf]; omega
  ·obtain rfl : j = 8 := by omega
   have jj : ¬ (8 : Int) < 8 := by omega
   have HFin : Hid (DirQ w bs (.returned (.tuple #[.slice a1 8 c1, .slice a2 8 c2, .slice a3 8 c3, .int .i64 (-1)])) wr) := .inr ⟨HOk.out, a1, c1, a2, c2, a3, c3, rfl, HD.out⟩;clear HD HOk;go_wp2_with fail
   refine bodyPost_ret (v := .tuple #[.slice a1 8 c1, .slice a2 8 c2, .slice a3 8 c3, .int .i64 (-1)]) (by simp [results, Tryz.results68, go_sem]) rfl HFin.out
end Go.Proofs.YtmfkggngjeolcaaGreatDoor
