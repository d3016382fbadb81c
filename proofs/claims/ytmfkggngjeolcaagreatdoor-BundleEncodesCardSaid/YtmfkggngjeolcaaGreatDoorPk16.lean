import Derived.Test.YtmfkggngjeolcaaGreatDoorPk15
import Derived.Great.BuildSlice
import Derived.Maps.AppendAt
import Derived.Test.YtmfkggngjeolcaaGreatDoorPk10
/- Bundle: a text is taken. Own work. -/
namespace Go.Proofs.YtmfkggngjeolcaaGreatDoor
open Go.RowKit Bn Dc
set_option linter.unusedVariables false
set_option linter.unusedSimpArgs false
section
variable {B kb : Nat} {raw : Value} {im en : List Value} {q : Pt} {p g : Nat} {w0 : World} {s : D} {w w' : World}
end
end Go.Proofs.YtmfkggngjeolcaaGreatDoor
/- Bundle: rows that the reader makes. Own work. -/
namespace Go.Proofs.YtmfkggngjeolcaaGreatDoor
open Go.RowKit Bn Dc
set_option linter.unusedVariables false
set_option linter.unusedSimpArgs false
/-- two rows, member by member -/
inductive T2 {β α : Type} (r : β → α → Prop) : List β → List α → Prop
  | nil : T2 r [] []
  | cons {x : β} {y : α} {xs : List β} {ys : List α} : r x y → T2 r xs ys → T2 r (x :: xs) (y :: ys)
theorem T2.len {β α : Type} {r : β → α → Prop} : ∀ {xs : List β} {ys : List α}, T2 r xs ys → xs.length = ys.length
  | [], [], .nil => rfl
  | _ :: _, _ :: _, .cons _ t => by rw [List.length_cons, List.length_cons, t.len]
theorem T2.snoc {β α : Type} {r : β → α → Prop} {x : β} {y : α} (h : r x y) : ∀ {xs : List β} {ys : List α}, T2 r xs ys → T2 r (xs ++ [x]) (ys ++ [y])
  | [], [], .nil => .cons h .nil
  | _ :: _, _ :: _, .cons a t => .cons a (T2.snoc h t)
theorem T2.imp {β α : Type} {r r' : β → α → Prop} (hi : ∀ x y, r x y → r' x y) : ∀ {xs : List β} {ys : List α}, T2 r xs ys → T2 r' xs ys
  | [], [], .nil => .nil
  | _ :: _, _ :: _, .cons a t => .cons (hi _ _ a) (T2.imp hi t)
theorem T2.eq {α : Type} : ∀ {xs ys : List α}, T2 (fun x y => x = y) xs ys → xs = ys
  | [], [], .nil => rfl
  | _ :: _, _ :: _, .cons a t => by rw [a, T2.eq t]
theorem T2.get {β α : Type} {r : β → α → Prop} : ∀ {xs : List β} {ys : List α}, T2 r xs ys → ∀ (i : Nat) (h : i < xs.length) (h' : i < ys.length), r xs[i] ys[i]
  | _ :: _, _ :: _, .cons a t, 0, _, _ => a
  | _ :: _, _ :: _, .cons a t, i + 1, h, h' => T2.get t i (by simpa using h) (by simpa using h')
/-- cells of things, side by side -/
def encs {β : Type} (enc : β → List Value) (xs : List β) : List Value := xs.flatMap enc
structure EncOk {β : Type} (k : Nat) (enc : β → List Value) : Prop where
  len : ∀ x, (enc x).length = k
  one : ∀ x, ∀ u ∈ enc x, u.oneCell' = true
section
variable {β : Type} {k : Nat} {enc : β → List Value}
theorem encs_len (h : EncOk k enc) : ∀ xs : List β, (encs enc xs).length = xs.length * k
  | [] => by simp [encs]
  | x :: xs => by
    have := encs_len h xs
    simp only [encs, List.flatMap_cons, List.length_append, List.length_cons] at this ⊢
    rw [this, h.len, Nat.add_mul]
    omega
theorem encs_snoc (xs : List β) (x : β) : encs enc (xs ++ [x]) = encs enc xs ++ enc x := by simp [encs]
theorem encs_get (h : EncOk k enc) : ∀ (xs : List β) (i j : Nat) (hi : i < xs.length) (hj : j < k), (encs enc xs)[i * k + j]? = (enc xs[i])[j]?
  | x :: xs, 0, j, _, hj => by
    rw [show encs enc (x :: xs) = enc x ++ encs enc xs from rfl, List.getElem?_append_left (by rw [h.len]; omega), Nat.zero_mul, Nat.zero_add]
    rfl
  | x :: xs, i + 1, j, hi, hj => by
    rw [show encs enc (x :: xs) = enc x ++ encs enc xs from rfl, List.getElem?_append_right (by rw [h.len, Nat.add_mul]; omega), h.len, show (i + 1) * k + j - k = i * k + j by rw [Nat.add_mul]; omega]
    exact encs_get h xs i j (by simpa using hi) hj
end
/-- a row of things of k cells that is owned from base on -/
def OwnG {β : Type} (t : TypeId) (k : Nat) (enc : β → List Value) (w : World) (base : Nat) (v : Value) (xs : List β) : Prop := w.ownsRow base t k v xs.length (encs enc xs)
section
variable {β : Type} {t : TypeId} {k : Nat} {enc : β → List Value} {w w' : World} {base : Nat} {v : Value} {xs : List β}
theorem OwnG.nil (t : TypeId) (k : Nat) (enc : β → List Value) (w : World) (base : Nat) : OwnG t k enc w base (.slice none 0 0) ([] : List β) := ⟨by simp [encs], .inl ⟨rfl, rfl⟩⟩
theorem OwnG.form (h : OwnG t k enc w base v xs) : ∃ a c, v = .slice a xs.length c ∧ xs.length ≤ c ∧ c ≤ maxLen ∧ ∀ j, v.ownBlock = some j → base ≤ j ∧ j < w.heap.size ∧ Tagd w t j := by
  rcases h.2 with ⟨rfl, h0⟩ | ⟨g, cap, cur, rfl, hbb, hgg, h1, h2, _⟩
  · exact ⟨none, 0, by rw [h0], by omega, Nat.zero_le _, fun k e => by cases e⟩
  · exact ⟨_, cap, rfl, h1, h2, fun k e => by cases e; exact ⟨hbb, (Array.getElem?_eq_some_iff.1 hgg).1, cur, hgg⟩⟩
theorem OwnG.keeps {Z : Nat → Prop} (h : OwnG t k enc w base v xs) (hk : Keeps Z w w') (hn : ∀ j, v.ownBlock = some j → ¬ Z j) : OwnG t k enc w' base v xs := by
  refine ⟨h.1, ?_⟩
  rcases h.2 with hv | ⟨g, cap, cur, rfl, hbb, hgg, rest⟩
  · exact .inl hv
  · exact .inr ⟨g, cap, cur, rfl, hbb, (hk.block g (Array.getElem?_eq_some_iff.1 hgg).1 (hn g rfl)).trans hgg, rest⟩
theorem OwnG.below (h : OwnG t k enc w base v xs) (hb : Below w.heap.size w w') : OwnG t k enc w' base v xs := h.keeps (Keeps.of_below (S := fun _ => False) hb) (fun _ _ e => e)
theorem OwnG.fd {B : Nat} (h : OwnG t k enc w base v xs) (hf : Fd B w w') (h1 : t ≠ 144) (h2 : t ≠ 191) : OwnG t k enc w' base v xs := by
  refine h.keeps hf (fun j e => ?_)
  obtain ⟨_, _, _, _, _, hj⟩ := h.form
  obtain ⟨_, _, ht⟩ := hj j e
  rintro ⟨_, e | e⟩
  · exact h1 (tag_same ht e)
  · exact h2 (tag_same ht e)
theorem OwnG.rowG (h : OwnG t k enc w base v xs) (he : EncOk k enc) : RowG k enc w v xs := by
  rcases h.2 with ⟨rfl, h0⟩ | ⟨g, cap, cur, rfl, hb, hg, hnc, hcm, hcs, ht⟩
  · obtain rfl := List.eq_nil_of_length_eq_zero h0
    exact ⟨none, 0, rfl, Nat.le_refl _, Nat.zero_le _, fun i hi => absurd hi (Nat.not_lt_zero _)⟩
  · refine ⟨_, cap, rfl, hnc, hcm, fun i hi => ⟨g, 0, rfl, (Array.getElem?_eq_some_iff.1 hg).1, fun j hj => ?_⟩⟩
    have hlt : i * k + j < xs.length * k := by
      have : (i + 1) * k ≤ xs.length * k := Nat.mul_le_mul_right _ hi
      rw [Nat.add_mul] at this
      omega
    rw [Nat.zero_add, cell_of_row w g (i * k + j) _ _ _ hg, ← Array.getElem?_toList, ← encs_get he xs i j hi hj, ← ht, List.getElem?_take_of_lt hlt]
end
/-- one thing behind a row -/
theorem wpList_appG {β : Type} {enc : β → List Value} {w : World} {base : Nat} {ops : Array Oper} {rest : List Oper} {o : Oper} {a : Act} {Q : Exit → Act → World → Prop} (hgd : o.guard = none) (tS tE : TypeId) (s y : Operand)
    (ho : o.op = .call { callee := .builtin .append, args := #[s, y], argTypes := #[tS, tS] }) (k b : Nat) (z : Value) (hu : Tryz.prog.underlying tS = some (.slice tE)) (hi : (Tryz.prog.info? tE).map (fun i => (i.zero, i.size, i.bytes)) = some (some z, k, b)) (hk : 0 < k) (hzs : z.cells.size = k) (hb : b ≤ 4096) (he : EncOk k enc)
    {v : Value} {xs : List β} {x : β} {g cap : Nat} (hs : a.eval s = v) (hv : OwnG tE k enc w base v xs) (hy : a.eval y = .slice (some ⟨g, 0, none⟩) 1 cap) (hx : w.heap[g]? = some (.cells (enc x).toArray tE (0, 0))) (hlen : xs.length ≤ 4194304) (hbase : base ≤ w.heap.size)
    (h : ∀ va vc w', Hid (OwnG tE k enc w' base (.slice va (xs.length + 1) vc) (xs ++ [x])) → Hid (w.grownBy w' v.ownBlock) → wpList Tryz.prog ops Q rest (a.put o.dst (.slice va (xs.length + 1) vc)) w') : wpList Tryz.prog ops Q (o :: rest) a w :=
  wpList_plain hgd fun K hK => by
    obtain ⟨i, hi, hz0, hz1, hz2⟩ := info_parts hi
    have hby : (xs.length + 1) * b ≤ 140737488355328 := by
      have : (xs.length + 1) * b ≤ 4194305 * 4096 := Nat.mul_le_mul (by omega) hb
      omega
    obtain ⟨v', w', r1, r2, r3, _⟩ := run_append_own_at (P := Tryz.prog) w base tS o.type tE i z k b hu hi hz0 hz1 hz2 hzs hk v xs.length (encs enc xs) hv ⟨g, 0, none⟩ 1 cap (enc x) (by rw [he.len]; omega) (fun j u hj => by
      rw [Addr.add_lit, Nat.zero_add, cell_of_row _ _ _ _ _ _ hx, ← Array.getElem?_toList]
      exact hj) (he.one x) (by unfold maxLen; omega) hby hbase
    have h2 : OwnG tE k enc w' base v' (xs ++ [x]) := by
      unfold OwnG
      rw [List.length_append, encs_snoc]
      exact r2
    obtain ⟨va, vc, rfl, _⟩ := h2.form
    rw [List.length_append] at h2 r1
    unfold Oper.wp execOp
    simp only [ho, resolve, invoke, builtin, Sem.run_bind, Sem.run_pure, Result.andThen_ok, List.map_toArray, List.map_cons, List.map_nil, hs, hy, r1]
    exact hK _ _ (h va vc w' h2 r3)
section
variable {B kb : Nat} {raw : Value} {im en : List Value} {q : Pt} {p g : Nat} {w0 : World} {s : D} {w w' : World}
/-- a row grew that is none of the reader's -/
theorem Dt.grown (h : Dt B kb raw im en q p g w0 s w) {row : Option Nat} (hk : w.grownBy w' row) {t : TypeId} (hrow : ∀ k, row = some k → w0.heap.size ≤ k ∧ Tagd w t k) (h1 : t ≠ 144) (h2 : t ≠ 191) (h3 : t ≠ 5) : Dt B kb raw im en q p g w0 s w' := by
  have hK : Keeps (fun k => row = some k) w w' := ⟨hk.os, hk.tape, hk.output, hk.size, fun i hi hn => hk.block i hi (fun e => hn e.symm)⟩
  have nb : row ≠ some kb := fun e => h1 (tag_same (hrow _ e).2 ⟨_, h.blk⟩)
  have np : row ≠ some p := fun e => h2 (tag_same (hrow _ e).2 ⟨_, h.rd.1⟩)
  have ng : row ≠ some g := fun e => h3 (tag_same (hrow _ e).2 ⟨_, h.rd.2.1⟩)
  refine ⟨(hK.block kb h.lt nb).trans h.blk, h.him, h.hen, h.hpt, h.hfi, h.hlen, h.rd.keeps hK np ng, h.hB, ?_⟩
  refine ⟨hk.os.trans h.fr.os, hk.tape.trans h.fr.tape, hk.output.trans h.fr.output, Nat.le_trans h.fr.size hk.size, fun i hi hn => ?_⟩
  exact (hK.block i (Nat.lt_of_lt_of_le hi h.fr.size) (fun e => by have := (hrow _ e).1; omega)).trans (h.fr.block i hi hn)
/-- what the reader and a row of its may write -/
def Rz (t : TypeId) (w w' : World) : Prop := Keeps (fun k => Tagd w 144 k ∨ Tagd w 191 k ∨ Tagd w t k) w w'
theorem Fd.rz {B : Nat} {w w' : World} (h : Fd B w w') (t : TypeId) : Rz t w w' := Keeps.mono h (fun k _ e => e.2.elim .inl (fun e => .inr (.inl e)))
theorem Rz.grown {t : TypeId} {row : Option Nat} (hk : w.grownBy w' row) (hrow : ∀ k, row = some k → Tagd w t k) : Rz t w w' := ⟨hk.os, hk.tape, hk.output, hk.size, fun i hi hn => hk.block i hi (fun e => hn (.inr (.inr (hrow _ e.symm))))⟩
theorem Rz.of_below {t : TypeId} (h : Below w.heap.size w w') : Rz t w w' := Keeps.of_below h
/-- where list stands -/
structure Lst {α β : Type} (t : TypeId) (k : Nat) (enc : β → List Value) (R : World → β → α → Prop) (one : D → α × D) (B kb : Nat) (raw : Value) (im en : List Value) (q : Pt) (p g : Nat) (w0 : World) (s : D) (v : Value) (i : Nat) (w : World) : Prop where
  ex : ∃ xs, OwnG t k enc w w0.heap.size v xs ∧ xs.length = i ∧ T2 (R w) xs (listD one i s).1
  dt : Dt B kb raw im en q p g w0 (listD one i s).2 w
def lenOf : Value → Nat
  | .slice _ n _ => n
  | _ => 0
end
end Go.Proofs.YtmfkggngjeolcaaGreatDoor
/- Bundle: list, at each type (written by parts/gen_dclst.py). Own work. -/
namespace Go.Proofs.YtmfkggngjeolcaaGreatDoor
open Go.RowKit Bn Dc
set_option linter.unusedVariables false
set_option linter.unusedSimpArgs false
/-- a slice, by its parts -/
structure SlV where
  a : Option Addr
  n : Nat
  c : Nat
def slE1 (x : SlV) : Value := .slice x.a x.n x.c
def slE (x : SlV) : List Value := [slE1 x]
def scE (x : Int × SlV) : List Value := [.int .i64 x.1, slE1 x.2]
def tbE (f : Nat → Nat) : List Value := (tabV f).toList
theorem rg_ok : EncOk 2 rgE := ⟨fun _ => rfl, fun x u hu => by simp [rgE] at hu; rcases hu with rfl | rfl <;> rfl⟩
theorem tn_ok : EncOk 6 tnE := ⟨fun _ => rfl, fun x u hu => by simp [tnE] at hu; rcases hu with rfl | rfl | rfl | rfl | rfl | rfl <;> rfl⟩
theorem po_ok : EncOk 1 poE := ⟨fun _ => rfl, fun x u hu => by simp [poE] at hu; rcases hu with rfl <;> rfl⟩
theorem gd_ok : EncOk 4 gdE := ⟨fun _ => rfl, fun x u hu => by simp [gdE] at hu; rcases hu with rfl | rfl | rfl | rfl <;> rfl⟩
theorem lk_ok : EncOk 5 lkE := ⟨fun _ => rfl, fun x u hu => by simp [lkE] at hu; rcases hu with rfl | rfl | rfl | rfl | rfl <;> rfl⟩
theorem st_ok : EncOk 2 stE := ⟨fun _ => rfl, fun x u hu => by simp [stE] at hu; rcases hu with rfl | rfl <;> rfl⟩
theorem sl_ok : EncOk 1 slE := ⟨fun _ => rfl, fun x u hu => by simp [slE] at hu; rcases hu with rfl <;> rfl⟩
theorem sc_ok : EncOk 2 scE := ⟨fun _ => rfl, fun x u hu => by simp [scE] at hu; rcases hu with rfl | rfl <;> rfl⟩
theorem infoRg : (Tryz.prog.info? 64).map (fun i => (i.zero, i.size, i.bytes)) = some (some (.agg #[.int .u64 0, .int .u64 0]), 2, 16) := by kernel_rfl
section
variable {B kb : Nat} {raw : Value} {im en : List Value} {q : Pt} {p g : Nat} {s : D} {w : World}
end
theorem infoTn : (Tryz.prog.info? 66).map (fun i => (i.zero, i.size, i.bytes)) = some (some (.agg #[.int .i64 0, .int .i64 0, .bool false, .int .i64 0, .int .i64 0, .int .i64 0]), 6, 48) := by kernel_rfl
section
variable {B kb : Nat} {raw : Value} {im en : List Value} {q : Pt} {p g : Nat} {s : D} {w : World}
end
theorem infoPo : (Tryz.prog.info? 68).map (fun i => (i.zero, i.size, i.bytes)) = some (some (.agg #[.int .i64 0]), 1, 8) := by kernel_rfl
section
variable {B kb : Nat} {raw : Value} {im en : List Value} {q : Pt} {p g : Nat} {s : D} {w : World}
end
theorem infoGd : (Tryz.prog.info? 70).map (fun i => (i.zero, i.size, i.bytes)) = some (some (.agg #[.int .u64 0, .int .u64 0, .int .u8 0, .string ⟨#[]⟩]), 4, 40) := by kernel_rfl
section
variable {B kb : Nat} {raw : Value} {im en : List Value} {q : Pt} {p g : Nat} {s : D} {w : World}
end
theorem infoCh : (Tryz.prog.info? 72).map (fun i => (i.zero, i.size, i.bytes)) = some (some (.agg #[.int .i64 0, .int .i64 0, .int .i64 0, .int .i64 0, .bool false]), 5, 40) := by kernel_rfl
section
variable {B kb : Nat} {raw : Value} {im en : List Value} {q : Pt} {p g : Nat} {s : D} {w : World}
end
section
variable {B kb : Nat} {raw : Value} {im en : List Value} {q : Pt} {p g : Nat} {s : D} {w : World}
end
theorem infoSt : (Tryz.prog.info? 74).map (fun i => (i.zero, i.size, i.bytes)) = some (some (.agg #[.int .i64 0, .int .i64 0]), 2, 16) := by kernel_rfl
section
variable {B kb : Nat} {raw : Value} {im en : List Value} {q : Pt} {p g : Nat} {s : D} {w : World}
end
theorem infoLa : (Tryz.prog.info? 75).map (fun i => (i.zero, i.size, i.bytes)) = some (some (.slice none 0 0), 1, 24) := by kernel_rfl
section
variable {B kb : Nat} {raw : Value} {im en : List Value} {q : Pt} {p g : Nat} {s : D} {w : World}
end
theorem infoSc : (Tryz.prog.info? 78).map (fun i => (i.zero, i.size, i.bytes)) = some (some (.agg #[.int .i64 0, .slice none 0 0]), 2, 32) := by kernel_rfl
section
variable {B kb : Nat} {raw : Value} {im en : List Value} {q : Pt} {p g : Nat} {s : D} {w : World}
end
end Go.Proofs.YtmfkggngjeolcaaGreatDoor
