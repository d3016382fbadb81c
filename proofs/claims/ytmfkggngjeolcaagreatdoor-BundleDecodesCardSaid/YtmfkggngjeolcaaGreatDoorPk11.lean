import Derived.Test.YtmfkggngjeolcaaGreatDoorPk10
import Derived.Great.BuildSlice
import Derived.Maps.AppendAt
import Derived.Test.YtmfkggngjeolcaaGreatDoorPk08
import Derived.Test.YtmfkggngjeolcaaGreatDoorProg
import Derived.WalkKit
import Derived.WalkSpells
import Derived.Deep.RegionHeld3
set_option linter.unusedSimpArgs false
set_option linter.unusedVariables false
set_option maxHeartbeats 8000000
set_option maxRecDepth 100000
namespace Go.Proofs.YtmfkggngjeolcaaGreatDoor
open Go.RowKit Bn Dc
inductive T2 {β α : Type} (r : β → α → Prop) : List β → List α → Prop
 | nil : T2 r [] []
 | cons {x : β} {y : α} {xs : List β} {ys : List α} : r x y → T2 r xs ys → T2 r (x :: xs) (y :: ys)
theorem T2.len {β α : Type} {r : β → α → Prop} : ∀ {xs : List β} {ys : List α}, T2 r xs ys → xs.length = ys.length
 | [], [], .nil => rfl
 | _ :: _, _ :: _, .cons _ t => by rw [List.length_cons, List.length_cons, t.len]
theorem T2.snoc {β α : Type} {r : β → α → Prop} {x : β} {y : α} (h : r x y) : ∀ {xs : List β} {ys : List α}, T2 r xs ys → T2 r (xs ++ [x]) (ys ++ [y])
 | [], [], .nil => .cons h .nil
 | _ :: _, _ :: _, .cons a t => .cons a (T2.snoc h t)
theorem T2.imp {β α : Type} {r r' : β → α → Prop} (hi : ∀ x y, r x y → r' x y) : ∀ {xs : List β} {ys : List α}, T2 r xs ys → T2 r' xs ys
 | [], [], .nil => .nil
 | _ :: _, _ :: _, .cons a t => .cons (hi _ _ a) (T2.imp hi t)
theorem T2.eq {α : Type} : ∀ {xs ys : List α}, T2 (fun x y => x = y) xs ys → xs = ys
 | [], [], .nil => rfl
 | _ :: _, _ :: _, .cons a t => by rw [a, T2.eq t]
theorem T2.get {β α : Type} {r : β → α → Prop} : ∀ {xs : List β} {ys : List α}, T2 r xs ys → ∀ (i : Nat) (h : i < xs.length) (h' : i < ys.length), r xs[i] ys[i]
 | _ :: _, _ :: _, .cons a t, 0, _, _ => a
 | _ :: _, _ :: _, .cons a t, i + 1, h, h' => T2.get t i (by simpa using h) (by simpa using h')
def encs {β : Type} (enc : β → List Value) (xs : List β) : List Value := xs.flatMap enc
structure EncOk {β : Type} (k : Nat) (enc : β → List Value) : Prop where
 len : ∀ x, (enc x).length = k
 one : ∀ x, ∀ u ∈ enc x, u.oneCell' = true
section
variable {β : Type} {k : Nat} {enc : β → List Value}
theorem encs_snoc (xs : List β) (x : β) : encs enc (xs ++ [x]) = encs enc xs ++ enc x := by simp [encs]
theorem encs_get (h : EncOk k enc) : ∀ (xs : List β) (i j : Nat) (hi : i < xs.length) (hj : j < k), (encs enc xs)[i * k + j]? = (enc xs[i])[j]?
 | x :: xs, 0, j, _, hj => by
  rw [show encs enc (x :: xs) = enc x ++ encs enc xs from rfl, List.getElem?_append_left (by rw [h.len]; omega), Nat.zero_mul, Nat.zero_add]
  rfl
 | x :: xs, i + 1, j, hi, hj => by
  rw [show encs enc (x :: xs) = enc x ++ encs enc xs from rfl, List.getElem?_append_right (by rw [h.len, Nat.add_mul]; omega), h.len, show (i + 1) * k + j - k = i * k + j by rw [Nat.add_mul]; omega];exact encs_get h xs i j (by simpa using hi) hj
end
def OwnG {β : Type} (t : TypeId) (k : Nat) (enc : β → List Value) (w : World) (base : Nat) (v : Value) (xs : List β) : Prop := w.ownsRow base t k v xs.length (encs enc xs)
section
variable {β : Type} {t : TypeId} {k : Nat} {enc : β → List Value} {w w' : World} {base : Nat} {v : Value} {xs : List β}
theorem OwnG.nil (t : TypeId) (k : Nat) (enc : β → List Value) (w : World) (base : Nat) : OwnG t k enc w base (.slice none 0 0) ([] : List β) := ⟨by simp [encs], .inl ⟨rfl, rfl⟩⟩
theorem OwnG.form (h : OwnG t k enc w base v xs) : ∃ a c, v = .slice a xs.length c ∧ xs.length ≤ c ∧ c ≤ maxLen ∧ ∀ j, v.ownBlock = some j → base ≤ j ∧ j < w.heap.size ∧ Tagd w t j := by
 rcases h.2 with ⟨rfl, h0⟩ | ⟨g, cap, cur, rfl, hbb, hgg, h1, h2, _⟩
 ·exact ⟨none, 0, by rw [h0], by omega, Nat.zero_le _, fun k e => by cases e⟩
 ·exact ⟨_, cap, rfl, h1, h2, fun k e => by cases e; exact ⟨hbb, (Array.getElem?_eq_some_iff.1 hgg).1, cur, hgg⟩⟩
theorem OwnG.keeps {Z : Nat → Prop} (h : OwnG t k enc w base v xs) (hk : Keeps Z w w') (hn : ∀ j, v.ownBlock = some j → ¬ Z j) : OwnG t k enc w' base v xs := by
 refine ⟨h.1, ?_⟩;rcases h.2 with hv | ⟨g, cap, cur, rfl, hbb, hgg, rest⟩
 ·exact .inl hv
 ·exact .inr ⟨g, cap, cur, rfl, hbb, (hk.block g (Array.getElem?_eq_some_iff.1 hgg).1 (hn g rfl)).trans hgg, rest⟩
theorem OwnG.below (h : OwnG t k enc w base v xs) (hb : Below w.heap.size w w') : OwnG t k enc w' base v xs := h.keeps (Keeps.of_below (S := fun _ => False) hb) (fun _ _ e => e)
theorem OwnG.fd {B : Nat} (h : OwnG t k enc w base v xs) (hf : Fd B w w') (h1 : t ≠ 144) (h2 : t ≠ 191) : OwnG t k enc w' base v xs := by
 refine h.keeps hf (fun j e => ?_);obtain ⟨_, _, _, _, _, hj⟩ := h.form;obtain ⟨_, _, ht⟩ := hj j e;rintro ⟨_, e | e⟩
 ·exact h1 (tag_same ht e)
 ·exact h2 (tag_same ht e)
theorem OwnG.rowG (h : OwnG t k enc w base v xs) (he : EncOk k enc) : RowG k enc w v xs := by
 rcases h.2 with ⟨rfl, h0⟩ | ⟨g, cap, cur, rfl, hb, hg, hnc, hcm, hcs, ht⟩
 ·obtain rfl := List.eq_nil_of_length_eq_zero h0;exact ⟨none, 0, rfl, Nat.le_refl _, Nat.zero_le _, fun i hi => absurd hi (Nat.not_lt_zero _)⟩
 ·refine ⟨_, cap, rfl, hnc, hcm, fun i hi => ⟨g, 0, rfl, (Array.getElem?_eq_some_iff.1 hg).1, fun j hj => ?_⟩⟩;have hlt : i * k + j < xs.length * k := by
   have : (i + 1) * k ≤ xs.length * k := Nat.mul_le_mul_right _ hi;rw [Nat.add_mul] at this;omega
  rw [Nat.zero_add, cell_of_row w g (i * k + j) _ _ _ hg, ← Array.getElem?_toList, ← encs_get he xs i j hi hj, ← ht, List.getElem?_take_of_lt hlt]
end
theorem run_slice1 (w : World) (tS tE : TypeId) (k b : Nat) (z : Value) (hu : Tryz.prog.underlying tS = some (.slice tE)) (hi : (Tryz.prog.info? tE).map (fun i => (i.zero, i.size, i.bytes)) = some (some z, k, b)) (hk : 0 < k) (hk2 : k ≤ 4096) (u : Value) (hq : u.cells.size = k) :
  (Instr.buildSlice tS 1 #[(0, u)]).run Tryz.prog w = .ok (.slice (some ⟨w.heap.size, 0, none⟩) 1 1) (w.alloc (.cells u.cells tE)) := by
 obtain ⟨i, hi, hz0, hz1, hz2⟩ := info_parts hi;refine run_buildSlice w tS tE 1 #[(0, u)] u.cells i z hu hi hz0 (by rw [hz1]; omega) (by rw [hz1]; omega) ?_;have := Great.fill_whole (s := i.size) (by rw [hz1]; exact hk) [u] ((Array.range (1 * i.size)).map (z.cells[· % z.cells.size]!)) (fun v hv => by simp at hv; subst hv; rw [hz1]; exact hq) (by simp)
 simpa using this
theorem wpList_appG {β : Type} {enc : β → List Value} {w : World} {base : Nat} {ops : Array Oper} {rest : List Oper} {o : Oper} {a : Act} {Q : Exit → Act → World → Prop} (hgd : o.guard = none) (tS tE : TypeId) (s y : Operand)
  (ho : o.op = .call { callee := .builtin .append, args := #[s, y], argTypes := #[tS, tS] }) (k b : Nat) (z : Value) (hu : Tryz.prog.underlying tS = some (.slice tE)) (hi : (Tryz.prog.info? tE).map (fun i => (i.zero, i.size, i.bytes)) = some (some z, k, b)) (hk : 0 < k) (hzs : z.cells.size = k) (hb : b ≤ 4096) (he : EncOk k enc)
  {v : Value} {xs : List β} {x : β} {g cap : Nat} (hs : a.eval s = v) (hv : OwnG tE k enc w base v xs) (hy : a.eval y = .slice (some ⟨g, 0, none⟩) 1 cap) (hx : w.heap[g]? = some (.cells (enc x).toArray tE (0, 0))) (hlen : xs.length ≤ 4194304) (hbase : base ≤ w.heap.size)
  (h : ∀ va vc w', Hid (OwnG tE k enc w' base (.slice va (xs.length + 1) vc) (xs ++ [x])) → Hid (w.grownBy w' v.ownBlock) → wpList Tryz.prog ops Q rest (a.put o.dst (.slice va (xs.length + 1) vc)) w') : wpList Tryz.prog ops Q (o :: rest) a w :=
 wpList_plain hgd fun K hK => by
  obtain ⟨i, hi, hz0, hz1, hz2⟩ := info_parts hi;have hby : (xs.length + 1) * b ≤ 140737488355328 := by
   have : (xs.length + 1) * b ≤ 4194305 * 4096 := Nat.mul_le_mul (by omega) hb;omega
  obtain ⟨v', w', r1, r2, r3, _⟩ := run_append_own_at (P := Tryz.prog) w base tS o.type tE i z k b hu hi hz0 hz1 hz2 hzs hk v xs.length (encs enc xs) hv ⟨g, 0, none⟩ 1 cap (enc x) (by rw [he.len]; omega) (fun j u hj => by
   rw [Addr.add_lit, Nat.zero_add, cell_of_row _ _ _ _ _ _ hx, ← Array.getElem?_toList];exact hj) (he.one x) (by unfold maxLen; omega) hby hbase
  have h2 : OwnG tE k enc w' base v' (xs ++ [x]) := by
   unfold OwnG;rw [List.length_append, encs_snoc];exact r2
  obtain ⟨va, vc, rfl, _⟩ := h2.form;rw [List.length_append] at h2 r1;unfold Oper.wp execOp;simp only [ho, resolve, invoke, builtin, Sem.run_bind, Sem.run_pure, Result.andThen_ok, List.map_toArray, List.map_cons, List.map_nil, hs, hy, r1];exact hK _ _ (h va vc w' h2 r3)
section
variable {B kb : Nat} {raw : Value} {im en : List Value} {q : Pt} {p g : Nat} {w0 : World} {s : D} {w w' : World}
theorem Dt.grown (h : Dt B kb raw im en q p g w0 s w) {row : Option Nat} (hk : w.grownBy w' row) {t : TypeId} (hrow : ∀ k, row = some k → w0.heap.size ≤ k ∧ Tagd w t k) (h1 : t ≠ 144) (h2 : t ≠ 191) (h3 : t ≠ 5) : Dt B kb raw im en q p g w0 s w' := by
 have hK : Keeps (fun k => row = some k) w w' := ⟨hk.os, hk.tape, hk.output, hk.size, fun i hi hn => hk.block i hi (fun e => hn e.symm)⟩
 have nb : row ≠ some kb := fun e => h1 (tag_same (hrow _ e).2 ⟨_, h.blk⟩);have np : row ≠ some p := fun e => h2 (tag_same (hrow _ e).2 ⟨_, h.rd.1⟩);have ng : row ≠ some g := fun e => h3 (tag_same (hrow _ e).2 ⟨_, h.rd.2.1⟩);refine ⟨(hK.block kb h.lt nb).trans h.blk, h.him, h.hen, h.hpt, h.hfi, h.hlen, h.rd.keeps hK np ng, h.hB, ?_⟩;refine ⟨hk.os.trans h.fr.os, hk.tape.trans h.fr.tape, hk.output.trans h.fr.output, Nat.le_trans h.fr.size hk.size, fun i hi hn => ?_⟩;exact (hK.block i (Nat.lt_of_lt_of_le hi h.fr.size) (fun e => by have := (hrow _ e).1; omega)).trans (h.fr.block i hi hn)
def Rz (t : TypeId) (w w' : World) : Prop := Keeps (fun k => Tagd w 144 k ∨ Tagd w 191 k ∨ Tagd w t k) w w'
theorem Fd.rz {B : Nat} {w w' : World} (h : Fd B w w') (t : TypeId) : Rz t w w' := Keeps.mono h (fun k _ e => e.2.elim .inl (fun e => .inr (.inl e)))
theorem Rz.grown {t : TypeId} {row : Option Nat} (hk : w.grownBy w' row) (hrow : ∀ k, row = some k → Tagd w t k) : Rz t w w' := ⟨hk.os, hk.tape, hk.output, hk.size, fun i hi hn => hk.block i hi (fun e => hn (.inr (.inr (hrow _ e.symm))))⟩
theorem Rz.of_below {t : TypeId} (h : Below w.heap.size w w') : Rz t w w' := Keeps.of_below h
structure Lst {α β : Type} (t : TypeId) (k : Nat) (enc : β → List Value) (R : World → β → α → Prop) (one : D → α × D) (B kb : Nat) (raw : Value) (im en : List Value) (q : Pt) (p g : Nat) (w0 : World) (s : D) (v : Value) (i : Nat) (w : World) : Prop where
 ex : ∃ xs, OwnG t k enc w w0.heap.size v xs ∧ xs.length = i ∧ T2 (R w) xs (listD one i s).1
 dt : Dt B kb raw im en q p g w0 (listD one i s).2 w
theorem Lst.step {α β : Type} {t : TypeId} {k : Nat} {enc : β → List Value} {R : World → β → α → Prop} {one : D → α × D} {B kb : Nat} {raw : Value} {im en : List Value} {q : Pt} {p g : Nat} {w0 w1 w2 : World} {s : D} {ao : Option Addr} {i cap : Nat} {x : β} (h : Lst t k enc R one B kb raw im en q p g w0 s (.slice ao i cap) i w1) (hR : ∀ W W' x y, R W x y → Rz t W W' → R W' x y) (hg : goD (listD one i s).2 = true) (hx : R w2 x (one (listD one i s).2).1) (h2 : Dt B kb raw im en q p g w1 (one (listD one i s).2).2 w2) (t1 : t ≠ 144) (t2 : t ≠ 191) (t3 : t ≠ 5) :
  ∃ xs, xs.length = i ∧ ∀ W, W = w2.alloc (.cells (enc x).toArray t) → OwnG t k enc W w0.heap.size (.slice ao i cap) xs ∧ W.heap[w2.heap.size]? = some (.cells (enc x).toArray t (0, 0)) ∧ w0.heap.size ≤ W.heap.size ∧ ∀ va vc w4, OwnG t k enc w4 w0.heap.size (.slice va (xs.length + 1) vc) (xs ++ [x]) → W.grownBy w4 (Value.slice ao i cap).ownBlock → Lst t k enc R one B kb raw im en q p g w0 s (.slice va (i + 1) vc) (i + 1) w4 := by
 obtain ⟨xs, hxo, hxl, hxt⟩ := h.ex;refine ⟨xs, hxl, fun W hW => ?_⟩;have hlow : Below w2.heap.size w2 W := by rw [hW]; exact (Below.refl _ _).alloc (Nat.le_refl _) _
 have h3 := (hxo.fd h2.fr t1 t2).below hlow;have hD := (h2.since h.dt.fr).below hlow;refine ⟨h3, by rw [hW]; exact heap_alloc_new w2 _, Nat.le_trans (h2.since h.dt.fr).fr.size hlow.size, fun va vc w4 h4 hg4 => ?_⟩;obtain ⟨_, _, _, _, _, hrow⟩ := h3.form;rw [hxl] at h4;refine ⟨⟨xs ++ [x], h4, by rw [List.length_append, hxl]; rfl, ?_⟩, ?_⟩
 ·rw [listD_next one i s hg];exact ((hxt.imp (fun x y h => hR _ _ _ _ (hR _ _ _ _ h (h2.fr.rz _)) (Rz.of_below hlow))).snoc (hR _ _ _ _ hx (Rz.of_below hlow))).imp (fun x y h => hR _ _ _ _ h (Rz.grown hg4 (fun k e => (hrow k e).2.2)))
 ·rw [listD_next one i s hg];exact hD.grown hg4 (fun k e => ⟨(hrow k e).1, (hrow k e).2.2⟩) t1 t2 t3
def lenOf : Value → Nat
 | .slice _ n _ => n
 | _ => 0
end
end Go.Proofs.YtmfkggngjeolcaaGreatDoor
namespace Go.Proofs.YtmfkggngjeolcaaGreatDoor
open Go.RowKit Bn
theorem rangeS_len (r : Rg) (s : S) : (rangeS r s).1.length = s.1.length + 16 := by rw [rangeS, long_len, long_len]
theorem stS_len (x : Int × Int) (s : S) : (stS x s).1.length = s.1.length + 8 := by rw [stS, word_len, zeros_len, none_len]
theorem tenS_len (x : Tn) (s : S) : (tenS x s).1.length = s.1.length + 8 := by rw [tenS, none_len, none_len, byte_len, byte_len, flag_len, byte_len]
theorem portS_len (x : Int) (s : S) : (portS x s).1.length = s.1.length + 8 := by rw [portS, zeros_len, none_len]
theorem chS_len (x : Lk) (s : S) : (chS x s).1.length = s.1.length + 8 := by rw [chS, zeros_len, byte_len, byte_len, none_len, none_len, field_len]
theorem iqS_len (x : Lk) (s : S) : (iqS x s).1.length = s.1.length + 8 := by rw [iqS, zeros_len, flag_len, byte_len, none_len, none_len, field_len]
section
variable {B kb : Nat} {im : List Value} {o : Option Nat} {en : List Value} {w0 : World} {s0 : S} {w : World}
variable {s : S}
theorem rangesX (h : Sx B kb im o en w0 s0 w) {v : Value} {xs : List Rg} (hr : ∀ W, Fx B w0 W → RowG 2 rgE W v xs) (hok : ∀ x ∈ xs, rgOk x) (hl : s0.1.length + 16 * xs.length ≤ 274877906944) : Calls Tryz.prog 88 #[.pointer (some ⟨kb, 0, none⟩), v] w fun e w' => e = .returned (.tuple #[]) ∧ Sx B kb im o en w0 (eachS rangeS xs s0) w' := by
 have HR : Hid (∀ W, Fx B w0 W → RowG 2 rgE W v xs) := hr;have H0 : Hid (Sx B kb im o en w0 (eachS rangeS (xs.take 0) s0) w) := Lib.hid h;have HL : Hid (s0.1.length + 16 * xs.length ≤ 274877906944) := hl;have HOk : Hid (∀ x ∈ xs, rgOk x) := hok;obtain ⟨ao, cap, rfl, h1, h2, _⟩ := hr w h.fr;unfold maxLen at h2;obtain ⟨n, hn⟩ : ∃ n, xs.length = n := ⟨_, rfl⟩
 have HN := Lib.hid hn;rw [hn] at h1 HR ⊢;clear hn h hl hok hr;go_enter Tryz.func88, Tryz.ntmps88
 go_wp2_with fail
 go_loopw [8] (fun iv wr => ∃ i : Nat, i ≤ n ∧ iv = .int .i64 (i : Int) ∧ Hid (Sx B kb im o en w0 (eachS rangeS (xs.take i) s0) wr)) (fun iv _ => n - (intOf iv).toNat)
 case atStart => exact ⟨0, Nat.zero_le _, rfl, H0⟩
 case round =>
  clear H0;obtain ⟨i, hi, rfl, HI⟩ := hrel
  by_cases hin : i < n
  ·have ji : (i : Int) < (n : Int) := by omega
   have hix : i < xs.length := by rw [HN.out]; exact hin
   have hw1 : IntKind.i64.wrap ((i : Int) + 1) = ((i + 1 : Nat) : Int) := by rw [IntKind.wrap_i64]; omega
   obtain ⟨_, _, e', _, _, hc⟩ := HR.out wr HI.out.fr;simp only [Value.slice.injEq] at e';obtain ⟨rfl, e9, rfl⟩ := e';clear e9;obtain ⟨b, of, rfl, _, hc⟩ := hc i hix;have c0 := hc 0 (by decide);have c1 := hc 1 (by decide);simp only [rgE, List.getElem?_cons_zero, List.getElem?_cons_succ, Nat.add_zero] at c0 c1;have hok1 := HOk.out xs[i] (List.getElem_mem _);have HE : Hid (∀ W, Sx B kb im o en w0 (rangeS xs[i] (eachS rangeS (xs.take i) s0)) W → Sx B kb im o en w0 (eachS rangeS (xs.take (i + 1)) s0) W) := fun W hW => by rw [eachS_take _ _ _ _ hix]; exact hW
   have HLi : Hid ((eachS rangeS (xs.take i) s0).1.length + 16 ≤ 274877906944) := show _ ≤ _ by
    rw [each_len rangeS_len, List.length_take];have := HL.out;omega
   generalize eachS rangeS (xs.take i) s0 = si at HI HE HLi;generalize xs[i] = x at *;obtain ⟨xa, xb⟩ := x;obtain ⟨hx0, hx1⟩ := hok1;clear hc;have HF0 : Hid (Fx B w0 (wr.alloc (.cells #[.int .u64 (xa : Int), .int .u64 (xb : Int)] 64))) := HI.out.fr.trans (Fx.of_below ((Below.refl _ _).alloc (Nat.le_refl _) _));have HS0 : Hid (Sx B kb im o en (wr.alloc (.cells #[.int .u64 (xa : Int), .int .u64 (xb : Int)] 64)) si (wr.alloc (.cells #[.int .u64 (xa : Int), .int .u64 (xb : Int)] 64))) := (St.below HI.out ((Below.refl _ _).alloc (Nat.le_refl _) _)).here;have HBx : Hid (∀ W, Fx B (wr.alloc (.cells #[.int .u64 (xa : Int), .int .u64 (xb : Int)] 64)) W → W.cell? ⟨wr.heap.size, 0, none⟩ = some (.int .u64 (xa : Int)) ∧ W.cell? ⟨wr.heap.size, 1, none⟩ = some (.int .u64 (xb : Int))) := fun W hW => by
    have hb := (hW.block' ⟨_, heap_alloc_new wr _⟩ (by simp) (by decide) (by decide) (by decide)).trans (heap_alloc_new wr _);refine ⟨?_, ?_⟩ <;> (rw [cell_of_row _ _ _ _ _ _ hb]; rfl)
   go_wp2_with fail
   refine (longX HS0.out (m := xa) hx0 (by (try simp only [byte_len, half_len, none_len, word_len, long_len, zeros_len, flag_len, field_len, many_len, ask_len, bytes_len]); have := HLi.out; omega)).mono ?_;rintro e w1 ⟨rfl, h1⟩;obtain ⟨d0, d1⟩ := HBx.out _ h1.fr;have HS1 := Lib.hid h1;clear h1 HS0;go_wp2_with fail
   clear d0 d1;refine (longX HS1.out (m := xb) hx1 (by (try simp only [byte_len, half_len, none_len, word_len, long_len, zeros_len, flag_len, field_len, many_len, ask_len, bytes_len]); have := HLi.out; omega)).mono ?_;rintro e w2 ⟨rfl, h2⟩;have HS2 := Lib.hid h2;clear h2 HS1;go_wp2_with fail
   go_roundw
   case rel => exact ⟨i + 1, by omega, rfl, HE.out _ (HS2.out.since HF0.out)⟩
   case measure => simp [intOf]; omega
  ·obtain rfl : i = n := by omega
   have ji : ¬ (i : Int) < (i : Int) := by omega
   have HE : Hid (eachS rangeS (xs.take i) s0 = eachS rangeS xs s0) := show _ = _ by rw [List.take_of_length_le (by rw [HN.out]; exact Nat.le_refl _)]
   rw [HE.out] at HI;go_wp2_with fail
   go_end0
   exact ⟨rfl, HI.out⟩
theorem subjectsX (h : Sx B kb im o en w0 s w) {v : Value} {xs : List Tn} (hi : im[3]? = some v) (hr : ∀ W, Fx B w0 W → RowG 6 tnE W v xs) (hok : ∀ x ∈ xs, tnOk x) (hl : s.1.length + 8 + 8 * xs.length ≤ 274877906944) : Calls Tryz.prog 49 #[.pointer (some ⟨kb, 0, none⟩)] w fun e w' => e = .returned (.tuple #[]) ∧ Sx B kb im o en w0 (eachS tenS xs (manyS xs.length s)) w' := by
 have HR : Hid (∀ W, Fx B w0 W → RowG 6 tnE W v xs) := hr;have HL : Hid ((manyS xs.length s).1.length + 8 * xs.length ≤ 274877906944) := show _ ≤ _ by rw [many_len]; exact hl
 have HOk : Hid (∀ x ∈ xs, tnOk x) := hok;obtain ⟨ao, cap, rfl, h1, h2, _⟩ := hr w h.fr;have h2' := h2;unfold maxLen at h2;have HC := Lib.hid (manyX h (n := xs.length) (by unfold maxLen at h2'; omega) (by omega));have HI : Hid (∀ W s', Sx B kb im o en w0 s' W → W.cell? ⟨kb, 3, none⟩ = some (.slice ao xs.length cap)) := fun W s' hW => (St.cell hW 3).trans ((lyC_im hW.him (by decide)).trans hi);have c0 := HI.out _ _ h;obtain ⟨n, hn⟩ : ∃ n, xs.length = n := ⟨_, rfl⟩
 have HN := Lib.hid hn;rw [hn] at h1 HR HC HI c0 HL ⊢;clear hn h hl hok hr h2' hi;obtain ⟨s0, hs0⟩ : ∃ s0, manyS n s = s0 := ⟨_, rfl⟩
 rw [hs0] at HC HL ⊢;clear hs0;go_enter Tryz.func49, Tryz.ntmps49
 go_wp2_with fail
 refine HC.out.mono ?_;rintro e w1 ⟨rfl, hm1⟩;have c1 := HI.out _ _ hm1;have H0 : Hid (Sx B kb im o en w0 (eachS tenS (xs.take 0) s0) w1) := Lib.hid hm1;clear hm1 HC HI c0;go_wp2_with fail
 go_loopw [18] (fun iv wr => ∃ i : Nat, i ≤ n ∧ iv = .int .i64 (i : Int) ∧ Hid (Sx B kb im o en w0 (eachS tenS (xs.take i) s0) wr)) (fun iv _ => n - (intOf iv).toNat)
 case atStart => exact ⟨0, Nat.zero_le _, rfl, H0⟩
 case round =>
  clear H0;obtain ⟨i, hi, rfl, HI⟩ := hrel
  by_cases hin : i < n
  ·have ji : (i : Int) < (n : Int) := by omega
   have hix : i < xs.length := by rw [HN.out]; exact hin
   have hw1 : IntKind.i64.wrap ((i : Int) + 1) = ((i + 1 : Nat) : Int) := by rw [IntKind.wrap_i64]; omega
   obtain ⟨_, _, e', _, _, hc⟩ := HR.out wr HI.out.fr;simp only [Value.slice.injEq] at e';obtain ⟨rfl, e9, rfl⟩ := e';clear e9;obtain ⟨b, of, rfl, _, hc⟩ := hc i hix;have c0 := hc 0 (by decide);have c1 := hc 1 (by decide);have c2 := hc 2 (by decide);have c3 := hc 3 (by decide);have c4 := hc 4 (by decide);have c5 := hc 5 (by decide);simp only [tnE, List.getElem?_cons_zero, List.getElem?_cons_succ, Nat.add_zero] at c0 c1 c2 c3 c4 c5;have hok1 := HOk.out xs[i] (List.getElem_mem _);have HE : Hid (∀ W, Sx B kb im o en w0 (tenS xs[i] (eachS tenS (xs.take i) s0)) W → Sx B kb im o en w0 (eachS tenS (xs.take (i + 1)) s0) W) := fun W hW => by rw [eachS_take _ _ _ _ hix]; exact hW
   have HLi : Hid ((eachS tenS (xs.take i) s0).1.length + 8 ≤ 274877906944) := show _ ≤ _ by
    rw [each_len tenS_len, List.length_take];have := HL.out;omega
   generalize eachS tenS (xs.take i) s0 = si at HI HE HLi;generalize xs[i] = x at *;obtain ⟨xa, xb, xc, xd, xe, xf⟩ := x;obtain ⟨hx0, hx1, hx3, hx4, hx5⟩ := hok1;clear hc;have HF0 : Hid (Fx B w0 (wr.alloc (.cells #[.int .i64 xa, .int .i64 xb, .bool xc, .int .i64 xd, .int .i64 xe, .int .i64 xf] 66))) := HI.out.fr.trans (Fx.of_below ((Below.refl _ _).alloc (Nat.le_refl _) _));have HS0 : Hid (Sx B kb im o en (wr.alloc (.cells #[.int .i64 xa, .int .i64 xb, .bool xc, .int .i64 xd, .int .i64 xe, .int .i64 xf] 66)) si (wr.alloc (.cells #[.int .i64 xa, .int .i64 xb, .bool xc, .int .i64 xd, .int .i64 xe, .int .i64 xf] 66))) := (St.below HI.out ((Below.refl _ _).alloc (Nat.le_refl _) _)).here;have HBx : Hid (∀ W, Fx B (wr.alloc (.cells #[.int .i64 xa, .int .i64 xb, .bool xc, .int .i64 xd, .int .i64 xe, .int .i64 xf] 66)) W → W.cell? ⟨wr.heap.size, 0, none⟩ = some (.int .i64 xa) ∧ W.cell? ⟨wr.heap.size, 1, none⟩ = some (.int .i64 xb) ∧ W.cell? ⟨wr.heap.size, 2, none⟩ = some (.bool xc) ∧ W.cell? ⟨wr.heap.size, 3, none⟩ = some (.int .i64 xd) ∧ W.cell? ⟨wr.heap.size, 4, none⟩ = some (.int .i64 xe) ∧ W.cell? ⟨wr.heap.size, 5, none⟩ = some (.int .i64 xf)) := fun W hW => by
    have hb := (hW.block' ⟨_, heap_alloc_new wr _⟩ (by simp) (by decide) (by decide) (by decide)).trans (heap_alloc_new wr _);refine ⟨?_, ?_, ?_, ?_, ?_, ?_⟩ <;> (rw [cell_of_row _ _ _ _ _ _ hb]; rfl)
   go_wp2_with fail
   refine (byteX HS0.out (k := xa) hx0 (by (try simp only [byte_len, half_len, none_len, word_len, long_len, zeros_len, flag_len, field_len, many_len, ask_len, bytes_len]); have := HLi.out; omega)).mono ?_;rintro e w1 ⟨rfl, h1⟩;obtain ⟨d0, d1, d2, d3, d4, d5⟩ := HBx.out _ h1.fr;have HS1 := Lib.hid h1;clear h1 HS0;go_wp2_with fail
   clear d0 d1 d2 d3 d4 d5;refine (flagX HS1.out (b := xc) (by (try simp only [byte_len, half_len, none_len, word_len, long_len, zeros_len, flag_len, field_len, many_len, ask_len, bytes_len]); have := HLi.out; omega)).mono ?_;rintro e w2 ⟨rfl, h2⟩;obtain ⟨d0, d1, d2, d3, d4, d5⟩ := HBx.out _ h2.fr;have HS2 := Lib.hid h2;clear h2 HS1;go_wp2_with fail
   clear d0 d1 d2 d3 d4 d5;refine (byteX HS2.out (k := xd) hx3 (by (try simp only [byte_len, half_len, none_len, word_len, long_len, zeros_len, flag_len, field_len, many_len, ask_len, bytes_len]); have := HLi.out; omega)).mono ?_;rintro e w3 ⟨rfl, h3⟩;obtain ⟨d0, d1, d2, d3, d4, d5⟩ := HBx.out _ h3.fr;have HS3 := Lib.hid h3;clear h3 HS2;go_wp2_with fail
   clear d0 d1 d2 d3 d4 d5;refine (byteX HS3.out (k := xf) hx5 (by (try simp only [byte_len, half_len, none_len, word_len, long_len, zeros_len, flag_len, field_len, many_len, ask_len, bytes_len]); have := HLi.out; omega)).mono ?_;rintro e w4 ⟨rfl, h4⟩;obtain ⟨d0, d1, d2, d3, d4, d5⟩ := HBx.out _ h4.fr;have HS4 := Lib.hid h4;clear h4 HS3;go_wp2_with fail
   clear d0 d1 d2 d3 d4 d5;refine (noneX HS4.out (k := xe) hx4 (by (try simp only [byte_len, half_len, none_len, word_len, long_len, zeros_len, flag_len, field_len, many_len, ask_len, bytes_len]); have := HLi.out; omega)).mono ?_;rintro e w5 ⟨rfl, h5⟩;obtain ⟨d0, d1, d2, d3, d4, d5⟩ := HBx.out _ h5.fr;have HS5 := Lib.hid h5;clear h5 HS4;go_wp2_with fail
   clear d0 d1 d2 d3 d4 d5;refine (noneX HS5.out (k := xb) hx1 (by (try simp only [byte_len, half_len, none_len, word_len, long_len, zeros_len, flag_len, field_len, many_len, ask_len, bytes_len]); have := HLi.out; omega)).mono ?_;rintro e w6 ⟨rfl, h6⟩;have HS6 := Lib.hid h6;clear h6 HS5;go_wp2_with fail
   go_roundw
   case rel => exact ⟨i + 1, by omega, rfl, HE.out _ (HS6.out.since HF0.out)⟩
   case measure => simp [intOf]; omega
  ·obtain rfl : i = n := by omega
   have ji : ¬ (i : Int) < (i : Int) := by omega
   have HE : Hid (eachS tenS (xs.take i) s0 = eachS tenS xs s0) := show _ = _ by rw [List.take_of_length_le (by rw [HN.out]; exact Nat.le_refl _)]
   rw [HE.out] at HI;go_wp2_with fail
   go_end0
   exact ⟨rfl, HI.out⟩
theorem channelsX (h : Sx B kb im o en w0 s w) {v : Value} {xs : List Lk} (hi : im[6]? = some v) (hr : ∀ W, Fx B w0 W → RowG 5 lkE W v xs) (hok : ∀ x ∈ xs, lkOk x) (hl : s.1.length + 8 + 8 * xs.length ≤ 274877906944) : Calls Tryz.prog 52 #[.pointer (some ⟨kb, 0, none⟩)] w fun e w' => e = .returned (.tuple #[]) ∧ Sx B kb im o en w0 (eachS chS xs (manyS xs.length s)) w' := by
 have HR : Hid (∀ W, Fx B w0 W → RowG 5 lkE W v xs) := hr;have HL : Hid ((manyS xs.length s).1.length + 8 * xs.length ≤ 274877906944) := show _ ≤ _ by rw [many_len]; exact hl
 have HOk : Hid (∀ x ∈ xs, lkOk x) := hok;obtain ⟨ao, cap, rfl, h1, h2, _⟩ := hr w h.fr;have h2' := h2;unfold maxLen at h2;have HC := Lib.hid (manyX h (n := xs.length) (by unfold maxLen at h2'; omega) (by omega));have HI : Hid (∀ W s', Sx B kb im o en w0 s' W → W.cell? ⟨kb, 6, none⟩ = some (.slice ao xs.length cap)) := fun W s' hW => (St.cell hW 6).trans ((lyC_im hW.him (by decide)).trans hi);have c0 := HI.out _ _ h;obtain ⟨n, hn⟩ : ∃ n, xs.length = n := ⟨_, rfl⟩
 have HN := Lib.hid hn;rw [hn] at h1 HR HC HI c0 HL ⊢;clear hn h hl hok hr h2' hi;obtain ⟨s0, hs0⟩ : ∃ s0, manyS n s = s0 := ⟨_, rfl⟩
 rw [hs0] at HC HL ⊢;clear hs0;go_enter Tryz.func52, Tryz.ntmps52
 go_wp2_with fail
 refine HC.out.mono ?_;rintro e w1 ⟨rfl, hm1⟩;have c1 := HI.out _ _ hm1;have H0 : Hid (Sx B kb im o en w0 (eachS chS (xs.take 0) s0) w1) := Lib.hid hm1;clear hm1 HC HI c0;go_wp2_with fail
 go_loopw [18] (fun iv wr => ∃ i : Nat, i ≤ n ∧ iv = .int .i64 (i : Int) ∧ Hid (Sx B kb im o en w0 (eachS chS (xs.take i) s0) wr)) (fun iv _ => n - (intOf iv).toNat)
 case atStart => exact ⟨0, Nat.zero_le _, rfl, H0⟩
 case round =>
  clear H0;obtain ⟨i, hi, rfl, HI⟩ := hrel
  by_cases hin : i < n
  ·have ji : (i : Int) < (n : Int) := by omega
   have hix : i < xs.length := by rw [HN.out]; exact hin
   have hw1 : IntKind.i64.wrap ((i : Int) + 1) = ((i + 1 : Nat) : Int) := by rw [IntKind.wrap_i64]; omega
   obtain ⟨_, _, e', _, _, hc⟩ := HR.out wr HI.out.fr;simp only [Value.slice.injEq] at e';obtain ⟨rfl, e9, rfl⟩ := e';clear e9;obtain ⟨b, of, rfl, _, hc⟩ := hc i hix;have c0 := hc 0 (by decide);have c1 := hc 1 (by decide);have c2 := hc 2 (by decide);have c3 := hc 3 (by decide);have c4 := hc 4 (by decide);simp only [lkE, List.getElem?_cons_zero, List.getElem?_cons_succ, Nat.add_zero] at c0 c1 c2 c3 c4;have hok1 := HOk.out xs[i] (List.getElem_mem _);have HE : Hid (∀ W, Sx B kb im o en w0 (chS xs[i] (eachS chS (xs.take i) s0)) W → Sx B kb im o en w0 (eachS chS (xs.take (i + 1)) s0) W) := fun W hW => by rw [eachS_take _ _ _ _ hix]; exact hW
   have HLi : Hid ((eachS chS (xs.take i) s0).1.length + 8 ≤ 274877906944) := show _ ≤ _ by
    rw [each_len chS_len, List.length_take];have := HL.out;omega
   generalize eachS chS (xs.take i) s0 = si at HI HE HLi;generalize xs[i] = x at *;obtain ⟨xa, xb, xc, xd, xe⟩ := x;obtain ⟨hx0, hx1, hx2, hx3⟩ := hok1;clear hc;have HF0 : Hid (Fx B w0 (wr.alloc (.cells #[.int .i64 xa, .int .i64 xb, .int .i64 xc, .int .i64 xd, .bool xe] 72))) := HI.out.fr.trans (Fx.of_below ((Below.refl _ _).alloc (Nat.le_refl _) _));have HS0 : Hid (Sx B kb im o en (wr.alloc (.cells #[.int .i64 xa, .int .i64 xb, .int .i64 xc, .int .i64 xd, .bool xe] 72)) si (wr.alloc (.cells #[.int .i64 xa, .int .i64 xb, .int .i64 xc, .int .i64 xd, .bool xe] 72))) := (St.below HI.out ((Below.refl _ _).alloc (Nat.le_refl _) _)).here;have HBx : Hid (∀ W, Fx B (wr.alloc (.cells #[.int .i64 xa, .int .i64 xb, .int .i64 xc, .int .i64 xd, .bool xe] 72)) W → W.cell? ⟨wr.heap.size, 0, none⟩ = some (.int .i64 xa) ∧ W.cell? ⟨wr.heap.size, 1, none⟩ = some (.int .i64 xb) ∧ W.cell? ⟨wr.heap.size, 2, none⟩ = some (.int .i64 xc) ∧ W.cell? ⟨wr.heap.size, 3, none⟩ = some (.int .i64 xd) ∧ W.cell? ⟨wr.heap.size, 4, none⟩ = some (.bool xe)) := fun W hW => by
    have hb := (hW.block' ⟨_, heap_alloc_new wr _⟩ (by simp) (by decide) (by decide) (by decide)).trans (heap_alloc_new wr _);refine ⟨?_, ?_, ?_, ?_, ?_⟩ <;> (rw [cell_of_row _ _ _ _ _ _ hb]; rfl)
   go_wp2_with fail
   refine (fieldX HS0.out (!xe)).mono ?_;rintro e w1 ⟨rfl, h1⟩;obtain ⟨d0, d1, d2, d3, d4⟩ := HBx.out _ h1.fr;have HS1 := Lib.hid h1;clear h1 HS0;go_wp2_with fail
   clear d0 d1 d2 d3 d4;refine (noneX HS1.out (k := xa) hx0 (by (try simp only [byte_len, half_len, none_len, word_len, long_len, zeros_len, flag_len, field_len, many_len, ask_len, bytes_len]); have := HLi.out; omega)).mono ?_;rintro e w2 ⟨rfl, h2⟩;obtain ⟨d0, d1, d2, d3, d4⟩ := HBx.out _ h2.fr;have HS2 := Lib.hid h2;clear h2 HS1;go_wp2_with fail
   clear d0 d1 d2 d3 d4;refine (noneX HS2.out (k := xb) hx1 (by (try simp only [byte_len, half_len, none_len, word_len, long_len, zeros_len, flag_len, field_len, many_len, ask_len, bytes_len]); have := HLi.out; omega)).mono ?_;rintro e w3 ⟨rfl, h3⟩;obtain ⟨d0, d1, d2, d3, d4⟩ := HBx.out _ h3.fr;have HS3 := Lib.hid h3;clear h3 HS2;go_wp2_with fail
   clear d0 d1 d2 d3 d4;refine (byteX HS3.out (k := xc) hx2 (by (try simp only [byte_len, half_len, none_len, word_len, long_len, zeros_len, flag_len, field_len, many_len, ask_len, bytes_len]); have := HLi.out; omega)).mono ?_;rintro e w4 ⟨rfl, h4⟩;obtain ⟨d0, d1, d2, d3, d4⟩ := HBx.out _ h4.fr;have HS4 := Lib.hid h4;clear h4 HS3;go_wp2_with fail
   clear d0 d1 d2 d3 d4;refine (byteX HS4.out (k := xd) hx3 (by (try simp only [byte_len, half_len, none_len, word_len, long_len, zeros_len, flag_len, field_len, many_len, ask_len, bytes_len]); have := HLi.out; omega)).mono ?_;rintro e w5 ⟨rfl, h5⟩;obtain ⟨d0, d1, d2, d3, d4⟩ := HBx.out _ h5.fr;have HS5 := Lib.hid h5;clear h5 HS4;go_wp2_with fail
   clear d0 d1 d2 d3 d4;refine (zerosX HS5.out (c := 2) (by (try simp only [byte_len, half_len, none_len, word_len, long_len, zeros_len, flag_len, field_len, many_len, ask_len, bytes_len]); have := HLi.out; omega)).mono ?_;rintro e w6 ⟨rfl, h6⟩;have HS6 := Lib.hid h6;clear h6 HS5;go_wp2_with fail
   go_roundw
   case rel => exact ⟨i + 1, by omega, rfl, HE.out _ (HS6.out.since HF0.out)⟩
   case measure => simp [intOf]; omega
  ·obtain rfl : i = n := by omega
   have ji : ¬ (i : Int) < (i : Int) := by omega
   have HE : Hid (eachS chS (xs.take i) s0 = eachS chS xs s0) := show _ = _ by rw [List.take_of_length_le (by rw [HN.out]; exact Nat.le_refl _)]
   rw [HE.out] at HI;go_wp2_with fail
   go_end0
   exact ⟨rfl, HI.out⟩
theorem irqsX (h : Sx B kb im o en w0 s w) {v : Value} {xs : List Lk} (hi : im[7]? = some v) (hr : ∀ W, Fx B w0 W → RowG 5 lkE W v xs) (hok : ∀ x ∈ xs, lkOk x) (hl : s.1.length + 8 + 8 * xs.length ≤ 274877906944) : Calls Tryz.prog 53 #[.pointer (some ⟨kb, 0, none⟩)] w fun e w' => e = .returned (.tuple #[]) ∧ Sx B kb im o en w0 (eachS iqS xs (manyS xs.length s)) w' := by
 have HR : Hid (∀ W, Fx B w0 W → RowG 5 lkE W v xs) := hr;have HL : Hid ((manyS xs.length s).1.length + 8 * xs.length ≤ 274877906944) := show _ ≤ _ by rw [many_len]; exact hl
 have HOk : Hid (∀ x ∈ xs, lkOk x) := hok;obtain ⟨ao, cap, rfl, h1, h2, _⟩ := hr w h.fr;have h2' := h2;unfold maxLen at h2;have HC := Lib.hid (manyX h (n := xs.length) (by unfold maxLen at h2'; omega) (by omega));have HI : Hid (∀ W s', Sx B kb im o en w0 s' W → W.cell? ⟨kb, 7, none⟩ = some (.slice ao xs.length cap)) := fun W s' hW => (St.cell hW 7).trans ((lyC_im hW.him (by decide)).trans hi);have c0 := HI.out _ _ h;obtain ⟨n, hn⟩ : ∃ n, xs.length = n := ⟨_, rfl⟩
 have HN := Lib.hid hn;rw [hn] at h1 HR HC HI c0 HL ⊢;clear hn h hl hok hr h2' hi;obtain ⟨s0, hs0⟩ : ∃ s0, manyS n s = s0 := ⟨_, rfl⟩
 rw [hs0] at HC HL ⊢;clear hs0;go_enter Tryz.func53, Tryz.ntmps53
 go_wp2_with fail
 refine HC.out.mono ?_;rintro e w1 ⟨rfl, hm1⟩;have c1 := HI.out _ _ hm1;have H0 : Hid (Sx B kb im o en w0 (eachS iqS (xs.take 0) s0) w1) := Lib.hid hm1;clear hm1 HC HI c0;go_wp2_with fail
 go_loopw [18] (fun iv wr => ∃ i : Nat, i ≤ n ∧ iv = .int .i64 (i : Int) ∧ Hid (Sx B kb im o en w0 (eachS iqS (xs.take i) s0) wr)) (fun iv _ => n - (intOf iv).toNat)
 case atStart => exact ⟨0, Nat.zero_le _, rfl, H0⟩
 case round =>
  clear H0;obtain ⟨i, hi, rfl, HI⟩ := hrel
  by_cases hin : i < n
  ·have ji : (i : Int) < (n : Int) := by omega
   have hix : i < xs.length := by rw [HN.out]; exact hin
   have hw1 : IntKind.i64.wrap ((i : Int) + 1) = ((i + 1 : Nat) : Int) := by rw [IntKind.wrap_i64]; omega
   obtain ⟨_, _, e', _, _, hc⟩ := HR.out wr HI.out.fr;simp only [Value.slice.injEq] at e';obtain ⟨rfl, e9, rfl⟩ := e';clear e9;obtain ⟨b, of, rfl, _, hc⟩ := hc i hix;have c0 := hc 0 (by decide);have c1 := hc 1 (by decide);have c2 := hc 2 (by decide);have c3 := hc 3 (by decide);have c4 := hc 4 (by decide);simp only [lkE, List.getElem?_cons_zero, List.getElem?_cons_succ, Nat.add_zero] at c0 c1 c2 c3 c4;have hok1 := HOk.out xs[i] (List.getElem_mem _);have HE : Hid (∀ W, Sx B kb im o en w0 (iqS xs[i] (eachS iqS (xs.take i) s0)) W → Sx B kb im o en w0 (eachS iqS (xs.take (i + 1)) s0) W) := fun W hW => by rw [eachS_take _ _ _ _ hix]; exact hW
   have HLi : Hid ((eachS iqS (xs.take i) s0).1.length + 8 ≤ 274877906944) := show _ ≤ _ by
    rw [each_len iqS_len, List.length_take];have := HL.out;omega
   generalize eachS iqS (xs.take i) s0 = si at HI HE HLi;generalize xs[i] = x at *;obtain ⟨xa, xb, xc, xd, xe⟩ := x;obtain ⟨hx0, hx1, hx2, hx3⟩ := hok1;clear hc;have HF0 : Hid (Fx B w0 (wr.alloc (.cells #[.int .i64 xa, .int .i64 xb, .int .i64 xc, .int .i64 xd, .bool xe] 72))) := HI.out.fr.trans (Fx.of_below ((Below.refl _ _).alloc (Nat.le_refl _) _));have HS0 : Hid (Sx B kb im o en (wr.alloc (.cells #[.int .i64 xa, .int .i64 xb, .int .i64 xc, .int .i64 xd, .bool xe] 72)) si (wr.alloc (.cells #[.int .i64 xa, .int .i64 xb, .int .i64 xc, .int .i64 xd, .bool xe] 72))) := (St.below HI.out ((Below.refl _ _).alloc (Nat.le_refl _) _)).here;have HBx : Hid (∀ W, Fx B (wr.alloc (.cells #[.int .i64 xa, .int .i64 xb, .int .i64 xc, .int .i64 xd, .bool xe] 72)) W → W.cell? ⟨wr.heap.size, 0, none⟩ = some (.int .i64 xa) ∧ W.cell? ⟨wr.heap.size, 1, none⟩ = some (.int .i64 xb) ∧ W.cell? ⟨wr.heap.size, 2, none⟩ = some (.int .i64 xc) ∧ W.cell? ⟨wr.heap.size, 3, none⟩ = some (.int .i64 xd) ∧ W.cell? ⟨wr.heap.size, 4, none⟩ = some (.bool xe)) := fun W hW => by
    have hb := (hW.block' ⟨_, heap_alloc_new wr _⟩ (by simp) (by decide) (by decide) (by decide)).trans (heap_alloc_new wr _);refine ⟨?_, ?_, ?_, ?_, ?_⟩ <;> (rw [cell_of_row _ _ _ _ _ _ hb]; rfl)
   go_wp2_with fail
   refine (fieldX HS0.out (decide (xc = 1))).mono ?_;rintro e w1 ⟨rfl, h1⟩;obtain ⟨d0, d1, d2, d3, d4⟩ := HBx.out _ h1.fr;have HS1 := Lib.hid h1;clear h1 HS0;go_wp2_with fail
   clear d0 d1 d2 d3 d4;refine (noneX HS1.out (k := xa) hx0 (by (try simp only [byte_len, half_len, none_len, word_len, long_len, zeros_len, flag_len, field_len, many_len, ask_len, bytes_len]); have := HLi.out; omega)).mono ?_;rintro e w2 ⟨rfl, h2⟩;obtain ⟨d0, d1, d2, d3, d4⟩ := HBx.out _ h2.fr;have HS2 := Lib.hid h2;clear h2 HS1;go_wp2_with fail
   clear d0 d1 d2 d3 d4;refine (noneX HS2.out (k := xb) hx1 (by (try simp only [byte_len, half_len, none_len, word_len, long_len, zeros_len, flag_len, field_len, many_len, ask_len, bytes_len]); have := HLi.out; omega)).mono ?_;rintro e w3 ⟨rfl, h3⟩;obtain ⟨d0, d1, d2, d3, d4⟩ := HBx.out _ h3.fr;have HS3 := Lib.hid h3;clear h3 HS2;go_wp2_with fail
   clear d0 d1 d2 d3 d4;refine (byteX HS3.out (k := xd) hx3 (by (try simp only [byte_len, half_len, none_len, word_len, long_len, zeros_len, flag_len, field_len, many_len, ask_len, bytes_len]); have := HLi.out; omega)).mono ?_;rintro e w4 ⟨rfl, h4⟩;obtain ⟨d0, d1, d2, d3, d4⟩ := HBx.out _ h4.fr;have HS4 := Lib.hid h4;clear h4 HS3;go_wp2_with fail
   clear d0 d1 d2 d3 d4;refine (flagX HS4.out (b := xe) (by (try simp only [byte_len, half_len, none_len, word_len, long_len, zeros_len, flag_len, field_len, many_len, ask_len, bytes_len]); have := HLi.out; omega)).mono ?_;rintro e w5 ⟨rfl, h5⟩;obtain ⟨d0, d1, d2, d3, d4⟩ := HBx.out _ h5.fr;have HS5 := Lib.hid h5;clear h5 HS4;go_wp2_with fail
   clear d0 d1 d2 d3 d4;refine (zerosX HS5.out (c := 2) (by (try simp only [byte_len, half_len, none_len, word_len, long_len, zeros_len, flag_len, field_len, many_len, ask_len, bytes_len]); have := HLi.out; omega)).mono ?_;rintro e w6 ⟨rfl, h6⟩;have HS6 := Lib.hid h6;clear h6 HS5;go_wp2_with fail
   go_roundw
   case rel => exact ⟨i + 1, by omega, rfl, HE.out _ (HS6.out.since HF0.out)⟩
   case measure => simp [intOf]; omega
  ·obtain rfl : i = n := by omega
   have ji : ¬ (i : Int) < (i : Int) := by omega
   have HE : Hid (eachS iqS (xs.take i) s0 = eachS iqS xs s0) := show _ = _ by rw [List.take_of_length_le (by rw [HN.out]; exact Nat.le_refl _)]
   rw [HE.out] at HI;go_wp2_with fail
   go_end0
   exact ⟨rfl, HI.out⟩
end
end Go.Proofs.YtmfkggngjeolcaaGreatDoor
namespace Go.Proofs.YtmfkggngjeolcaaGreatDoor
open Go.RowKit
theorem takeH {P : Program} {md : Region.Mode} {ops : Array Oper} {Q : Exit → Act → World → Prop} {S : World → Prop} {i d : Nat} {oi : Oper} {v : Value} {fuel : Nat} {listed : Array Bool} {a : Act} {w : World} (hi : ops[i]? = some oi) (hd : oi.dst = some d)
  (hs : Region.noSelect ops = true) (hf : Region.free md ops listed i = true) (hr : (Region.ready md ops listed).contains i = true)
  (hQ : ∀ c a w, Q (.panic c) (a.put (some d) v) w → Q (.panic c) a w) (hy : YieldsIf P ops S oi v a) (hS : S w)
  (h : wpAnyH P md ops Q S fuel (listed.setIfInBounds i true) (a.put (some d) v) w) : wpAnyH P md ops Q S (fuel + 1) listed a w := by
 rw [← hd] at h hQ;exact wpAnyH_take hi hs hf hr hQ hy hS h
theorem takeK (i d : Nat) (v : Value) {P : Program} {md : Region.Mode} {ops : Array Oper} {Q : Exit → Act → World → Prop} {S : World → Prop} {oi : Oper} {fuel : Nat} {listed : Array Bool} {a a' : Act} {w : World} (hS : S w)
  (h : wpAnyH P md ops Q S fuel (listed.setIfInBounds i true) a' w) (hi : ops[i]? = some oi := by rfl) (hd : oi.dst = some d := by rfl)
  (ha : a.put (some d) v = a' := by simp only [Act.put, List.setIfInBounds_toArray, List.set_cons_zero, List.set_cons_succ]; rfl)
  (hs : Region.noSelect ops = true := by kernel_rfl) (hf : Region.free md ops listed i = true := by kernel_rfl) (hr : (Region.ready md ops listed).contains i = true := by kernel_rfl)
  (hQ : ∀ c a w, Q (.panic c) (a.put (some d) v) w → Q (.panic c) a w := by exact fun _ _ _ h => h) (hw : Region.wanted oi (yielded ops a.tmps) = true := by kernel_rfl)
  (hy : ∀ w, S w → (execOp a.eval oi).run P w = .ok (.value v) w := by intro wz hz; (try dsimp only at hz); go_simp) : wpAnyH P md ops Q S (fuel + 1) listed a w :=
 takeH hi hd hs hf hr hQ (.inl ⟨hw, hy⟩) hS (ha ▸ h)
theorem step_call3 {P : Program} {ops : Array Oper} {o : Oper} {a : Act} {w : World} {K : Act → World → Prop} {Q : Exit → Act → World → Prop} {E : Prop} (hw : Region.wanted o (yielded ops a.tmps) = true)
  (f : FuncId) (xs : Array Operand) (ats : Array TypeId) (ho : o.op = .call { callee := .value (.func f), args := xs, argTypes := ats }) (he : ∀ args w, (callFunc f args).run P w = .ok (.enter f args) w) (args : Array Value) (hargs : #[] ++ xs.map a.eval ++ #[] = args) {R : Value → World → Prop}
  (hc : Calls P f args w fun e w' => ∃ v, e = .returned v ∧ R v w') (hK : ∀ v w', R v w' → K (a.put o.dst v) w') :
  if Region.wanted o (yielded ops a.tmps) = true then Oper.wp P o a w K Q else E := by
 rw [if_pos hw];have e1 : execOp a.eval o = callFunc f args := by
  cases o
  simp only at ho;subst ho;rw [← hargs]
  rfl
 unfold Oper.wp;rw [e1, he args w];rw [Oper.upon_enter];refine hc.mono ?_;rintro e w' ⟨v, rfl, h⟩;exact hK v w' h
theorem readyCall {P : Program} {md : Region.Mode} {ops : Array Oper} {Q : Exit → Act → World → Prop} {S : World → Prop} {i d : Nat} {o : Oper} {fuel : Nat} {listed : Array Bool} {a : Act} {w : World} {rs : List Nat} (hi : ops[i]? = some o) (hd : o.dst = some d) (hw : Region.wanted o (yielded ops a.tmps) = true)
  (f : FuncId) (xs : Array Operand) (ats : Array TypeId) (ho : o.op = .call { callee := .value (.func f), args := xs, argTypes := ats }) (he : ∀ args w, (callFunc f args).run P w = .ok (.enter f args) w) (args : Array Value) (hargs : #[] ++ xs.map a.eval ++ #[] = args) {R : Value → World → Prop}
  (hc : Calls P f args w fun e w' => ∃ v, e = .returned v ∧ R v w') (hS : ∀ v w', R v w' → S w') (hK : ∀ v w', R v w' → S w' → wpAnyH P md ops Q S fuel (listed.setIfInBounds i true) (a.put (some d) v) w') (hs : AllReadyH P md ops Q S fuel listed a w rs) : AllReadyH P md ops Q S fuel listed a w (i :: rs) := by
 rw [← hd] at hK;exact AllReadyH.cons hi (fun K hK' => step_call3 hw f xs ats ho he args hargs hc (fun v w' hR => hK'.out _ _ (hS v w' hR) (hK v w' hR))) hs
theorem readyVal {P : Program} {md : Region.Mode} {ops : Array Oper} {Q : Exit → Act → World → Prop} {S : World → Prop} {i d : Nat} {o : Oper} {fuel : Nat} {listed : Array Bool} {a : Act} {w : World} {rs : List Nat} (hi : ops[i]? = some o) (hd : o.dst = some d) (hw : Region.wanted o (yielded ops a.tmps) = true) (v : Value) (hv : (execOp a.eval o).run P w = .ok (.value v) w) (hS : S w)
  (hK : wpAnyH P md ops Q S fuel (listed.setIfInBounds i true) (a.put (some d) v) w) (hs : AllReadyH P md ops Q S fuel listed a w rs) : AllReadyH P md ops Q S fuel listed a w (i :: rs) := by
 rw [← hd] at hK;refine AllReadyH.cons hi (fun K hK' => ?_) hs;rw [if_pos hw];unfold Oper.wp;rw [hv, Oper.upon_value];exact hK'.out _ _ hS (fun _ => hK)
theorem readySkip {P : Program} {md : Region.Mode} {ops : Array Oper} {Q : Exit → Act → World → Prop} {S : World → Prop} {i : Nat} {o : Oper} {fuel : Nat} {listed : Array Bool} {a : Act} {w w' : World} {rs : List Nat} (hi : ops[i]? = some o) (hd : o.dst = none) (hw : Region.wanted o (yielded ops a.tmps) = true) (hv : (execOp a.eval o).run P w = .ok .skip w') (hS : S w')
  (hK : wpAnyH P md ops Q S fuel (listed.setIfInBounds i true) a w') (hs : AllReadyH P md ops Q S fuel listed a w rs) : AllReadyH P md ops Q S fuel listed a w (i :: rs) := by
 refine AllReadyH.cons hi (fun K hK' => ?_) hs;rw [if_pos hw];unfold Oper.wp;rw [hv, Oper.upon_skip, hd];exact hK'.out _ _ hS (fun _ => hK)
end Go.Proofs.YtmfkggngjeolcaaGreatDoor
