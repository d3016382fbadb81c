import Derived.Test.YtmfkggngjeolcaaGreatDoorPk29
import Derived.Test.YtmfkggngjeolcaaGreatDoorPk30
import Derived.Test.YtmfkggngjeolcaaGreatDoorPk31
/- Bundle, the document's own Encode: what it answers, plain. Own work. -/
namespace Go.Proofs.YtmfkggngjeolcaaGreatDoor
open Go.RowKit Bn Ek
set_option linter.unusedVariables false
set_option linter.unusedSimpArgs false
namespace Ek
/-- the tables, unless there are too many -/
def fewD (I : Im) : List (Nat → Nat) := if 1024 < I.tabs.length then [] else I.tabs
/-- what each part is laid as -/
def pS (I : Im) : Nat → S
  | 0 => eachS rangeS (I.rams ++ I.devs) (zerosS 4 (numD 2 (I.devs.length : Int) (numD 2 (I.rams.length : Int) ([], 0))))
  | 1 => eachS tenD I.subs (manyD I.subs.length ([], 0))
  | 2 => eachS portD I.ports (manyD I.ports.length (fieldS (decide (I.ports.length = I.devs.length)) ([], 0)))
  | 3 => eachS gdD I.regs (manyD I.regs.length ([], 0))
  | 4 => eachS chD I.chs (manyD I.chs.length ([], 0))
  | 5 => eachS iqD I.irqs (manyD I.irqs.length ([], 0))
  | 6 => eachS (planD (lanesL I.plans)) I.plans (numD 2 I.start (noneD I.master (numD 2 (lanesL I.plans : Int) (numD 2 (I.plans.length : Int) ([], 0)))))
  | _ => eachS tabS (fewD I) ([], 0)
/-- the refusal, behind so many parts -/
def noK (I : Im) : Nat → Int
  | 0 => worstD I
  | k + 1 => if (noK I k = 0 ∨ noK I k = 3 ∧ (pS I k).2 = 132) ∧ (pS I k).2 ≠ 0 then (pS I k).2 else noK I k
def lsD (I : Im) : List Nat := (List.range 8).map fun k => (pS I k).1.length
def endD (I : Im) : Nat := (plc 0 160 (lsD I)).2
def atD (I : Im) : List Nat := (plc 0 160 (lsD I)).1
def noD (I : Im) : Int := if noK I 8 = 0 ∧ (1024 < I.tabs.length ∨ 1024 < endD I / 4096) then 4 else noK I 8
/-- the header, behind so many entries -/
def hN (I : Im) : Nat → S
  | 0 => longS I.base (numD 4 ((endD I / 4096 : Nat) : Int) (numD 2 8 (numD 2 1 (magB, 0))))
  | k + 1 => bytesS (Pl.le 4 (Pl.crc (pS I k).1)) (numD 4 (((lsD I).getD k 0 : Nat) : Int) (numD 4 (((atD I).getD k 0 : Nat) : Int) (zerosS 2 (numD 2 ((k + 1 : Nat) : Int) (hN I k)))))
def hdD (I : Im) : S := zerosS 4 (bytesS (Pl.le 4 (Pl.crc (hN I 8).1)) (hN I 8))
/-- bytes laid into a row, from a place on -/
def layB (b : List Nat) (a : Nat) (zs : List Nat) : List Nat := b.take a ++ zs ++ b.drop (a + zs.length)
def bD (I : Im) : Nat → List Nat
  | 0 => layB (List.replicate (endD I) 0) 0 (hdD I).1
  | k + 1 => layB (bD I k) ((atD I).getD k 0) (pS I k).1
end Ek
theorem pS_len {I : Im} (h : cntI I < 4000000) : ∀ k, (pS I k).1.length ≤ 270000000 := by
  have h1 := gsum_le I.regs
  have h2 := psum_le I.plans
  have hrl : ∀ xs : List Gd, xs.length ≤ rsz xs := fun xs => by
    induction xs with
    | nil => exact Nat.le_refl _
    | cons g gs ih => rw [rsz, List.length_cons]; omega
  have h3 := hrl I.regs
  unfold cntI memI at h
  intro k
  match k with
  | 0 => rw [pS, each_len rangeS_len, zeros_len, num_len, num_len, List.length_append]; simp only [List.length_nil]; omega
  | 1 => rw [pS, each_len tenD_len, manyD_len]; simp only [List.length_nil]; omega
  | 2 => rw [pS, each_len portD_len, manyD_len, field_len]; simp only [List.length_nil]; omega
  | 3 =>
    have := gdsD_le I.regs (manyD I.regs.length ([], 0))
    rw [manyD_len] at this
    rw [pS]
    simp only [List.length_nil] at this
    omega
  | 4 => rw [pS, each_len chD_len, manyD_len]; simp only [List.length_nil]; omega
  | 5 => rw [pS, each_len iqD_len, manyD_len]; simp only [List.length_nil]; omega
  | 6 => rw [pS, plansD_len, num_len, noneD_len, num_len, num_len]; simp only [List.length_nil]; omega
  | k + 7 =>
    have e : pS I (k + 7) = eachS tabS (fewD I) ([], 0) := rfl
    rw [e, each_len tab_len]
    unfold fewD
    split
    · simp
    · simp only [List.length_nil]; omega
end Go.Proofs.YtmfkggngjeolcaaGreatDoor
/- Bundle, the document's own Encode: rows that are made, bytes that are laid into them (after WnMk). Own work. -/
namespace Go.Proofs.YtmfkggngjeolcaaGreatDoor
open Go.RowKit Bn Ek
set_option linter.unusedVariables false
set_option linter.unusedSimpArgs false
theorem own_of_row {w : World} {g base n c : Nat} {L p : List Nat} (h : Row w g L) (hb : base ≤ g) (hL : L.length = c) (hn : p.length = n) (hc : n ≤ c) (hm : c ≤ maxLen) (ht : L.take n = p) : Own w base (.slice (some ⟨g, 0, none⟩) n c) p := by
  subst hn
  refine ⟨by rw [bvs_length, Nat.mul_one], .inr ⟨g, c, (bvs L).toArray, rfl, hb, h, hc, hm, ?_, ?_⟩⟩
  · simp [bvs_length, hL]
  · rw [Nat.mul_one]
    show (bvs L).take p.length = bvs p
    rw [← ht]
    simp [bvs]
theorem wpList_makeP (w : World) {ops : Array Oper} {rest : List Oper} {o : Oper} {a : Act} {Q : Exit → Act → World → Prop}
    (hg : o.guard = none) (l c : Operand) (hop : o.op = Op.makeSlice 43 l c)
    (kl kc : IntKind) (L C : Int) (n m : Nat) (hl : a.eval l = .int kl L) (hc : a.eval c = .int kc C) (hL : L = (n : Int)) (hC : C = (m : Int)) (hnm : n ≤ m) (b : m ≤ 281474976710656)
    (hK : ∀ w', Hid (Row w' w.heap.size (List.replicate m 0)) → Hid (w.grownBy w' none) → wpList Tryz.prog ops Q rest (a.put o.dst (.slice (some ⟨w.heap.size, 0, none⟩) n m)) w') :
    wpList Tryz.prog ops Q (o :: rest) a w := by
  obtain ⟨i, hi, hz0, hz1, hz2⟩ := info_parts info_byte
  refine wpList_plain hg fun K hK' => ?_
  subst hL
  subst hC
  have hrun := run_make (P := Tryz.prog) w 43 5 i (.int .u8 0) Tryz.underlying43 hi hz0 kl kc (n : Int) (m : Int) (by omega) (by omega) (by rw [hz2]; omega) (by omega)
  simp only [Int.toNat_natCast, hz1, Nat.mul_one] at hrun
  have hrow : Row (w.alloc (.cells (madeCells (Value.int .u8 0).cells m) 5)) w.heap.size (List.replicate m 0) := by
    have e : madeCells (Value.int .u8 0).cells m = (bvs (List.replicate m 0)).toArray := by
      apply Array.toList_inj.1
      show (madeCells #[Value.int .u8 0] m).toList = _
      rw [toList_madeCells_one]
      simp [bvs]
    rw [e]
    exact Array.getElem?_push_size
  unfold Oper.wp
  simp [execOp, hop, hl, hc, hrun, Result.andThen]
  exact hK' _ _ (hK _ hrow (World.grownBy_alloc w _ none))
theorem int_row {w : World} {B n rc : Nat} {ra : Option Addr} {xs : List Nat} (h : OwnG 3 1 ntE w B (.slice ra n rc) xs) (hn : n = xs.length) (hp : 0 < n) : ∃ ab, ra = some ⟨ab, 0, none⟩ ∧ ∀ W, Below w.heap.size w W → ∀ j, j < xs.length → W.cell? ⟨ab, j, none⟩ = some (.int .i64 ((xs.getD j 0 : Nat) : Int)) := by
  obtain ⟨ao, cap, e, h1, h2, h3⟩ := h.rowG nt_ok
  simp only [Value.slice.injEq] at e
  obtain ⟨rfl, _, rfl⟩ := e
  rcases h.2 with ⟨hv, h0⟩ | ⟨g, cap', cur, hv, hb, hg, r⟩
  · omega
  · simp only [Value.slice.injEq] at hv
    obtain ⟨rfl, _, _⟩ := hv
    refine ⟨g, rfl, fun W hW j hj => ?_⟩
    obtain ⟨b, o, e, hlt, hc⟩ := h3 j hj
    cases e
    have h9 := hc 0 (by decide)
    rw [Nat.mul_one, Nat.add_zero, Nat.zero_add] at h9
    rw [World.cell?_of_block (w := w) (a := ⟨g, j, none⟩) (hW.block g hlt), h9, List.getD_eq_getElem?_getD, List.getElem?_eq_getElem hj]
    rfl
theorem layB_len {b zs : List Nat} {a : Nat} (h : a + zs.length ≤ b.length) : (layB b a zs).length = b.length := by
  unfold layB
  rw [List.length_append, List.length_append, List.length_take, List.length_drop]
  omega
theorem layB_zero (b zs : List Nat) (a : Nat) : layB b a (zs.take 0) = b := by
  unfold layB
  simp
theorem layB_next {b zs : List Nat} {a x : Nat} (hx : x < zs.length) (h : a + x < b.length) : (layB b a (zs.take x)).set (a + x) (zs.getD x 0) = layB b a (zs.take (x + 1)) := by
  have hl : (zs.take x).length = x := by rw [List.length_take]; omega
  have hl2 : (zs.take (x + 1)).length = x + 1 := by rw [List.length_take]; omega
  unfold layB
  rw [hl, hl2, List.drop_eq_getElem_cons h, show a + (x + 1) = a + x + 1 by omega]
  have hA : (b.take a ++ zs.take x).length = a + x := by rw [List.length_append, List.length_take, hl]; omega
  rw [List.set_append_right _ _ (by omega), hA, Nat.sub_self, List.set_cons_zero, List.take_succ_eq_append_getElem hx, List.getD_eq_getElem?_getD, List.getElem?_eq_getElem hx]
  simp only [List.append_assoc, List.cons_append, List.nil_append, Option.getD_some]
theorem at_le : ∀ (ls : List Nat) (k a j : Nat), j < ls.length → (plc k a ls).1.getD j 0 + ls.getD j 0 ≤ (plc k a ls).2
  | x :: ls, k, a, 0, _ => by
    have hm : ∀ (ls : List Nat) (k a : Nat), a ≤ (plc k a ls).2 := fun ls => by
      induction ls with
      | nil => intro k a; exact Nat.le_refl _
      | cons y ys ih =>
        intro k a
        rw [plc]
        have h1 := ih (k + 1) (begD k a + y)
        have h2 := begD_le k a
        simp only
        omega
    rw [plc]
    exact hm ls _ _
  | x :: ls, k, a, j + 1, h => by
    rw [plc]
    exact at_le ls (k + 1) (begD k a + x) j (by simpa using h)
theorem end_ge (ls : List Nat) (h : 0 < ls.length) : 160 ≤ (plc 0 160 ls).2 := by
  have hm : ∀ (ls : List Nat) (k a : Nat), a ≤ (plc k a ls).2 := fun ls => by
    induction ls with
    | nil => intro k a; exact Nat.le_refl _
    | cons y ys ih =>
      intro k a
      rw [plc]
      have h1 := ih (k + 1) (begD k a + y)
      have h2 := begD_le k a
      simp only
      omega
  exact hm ls 0 160
theorem hN_len (I : Im) : ∀ k, (hN I k).1.length = 24 + 16 * k
  | 0 => by rw [hN, long_len, num_len, num_len, num_len]; rfl
  | k + 1 => by rw [hN, bytes_len, num_len, num_len, zeros_len, num_len, hN_len I k, Pl.le_length]; omega
theorem hd_len (I : Im) : (hdD I).1.length = 160 := by rw [hdD, zeros_len, bytes_len, hN_len, Pl.le_length]
end Go.Proofs.YtmfkggngjeolcaaGreatDoor
/- Bundle, the document's own Encode: walked (written by parts/gen_ekcode.py). Own work. -/
namespace Go.Proofs.YtmfkggngjeolcaaGreatDoor
open Go.RowKit Bn Ek
set_option linter.unusedVariables false
set_option linter.unusedSimpArgs false
def ldE (x : Value × Int) : List Value := [x.1, .int .i64 x.2]
/-- the parts, where they lie -/
structure Pts (B : Nat) (I : Im) (pb : Nat) (qs : List (Value × Int)) (W : World) : Prop where
  len : qs.length = 8
  blk : W.heap[pb]? = some (.cells (encs ldE qs).toArray 101 (0, 0))
  hB : B ≤ pb
  own : ∀ (j : Nat) (h : j < qs.length), Own W B qs[j].1 (pS I j).1 ∧ qs[j].2 = (pS I j).2
  sm : ∀ j, j < 8 → (∀ z ∈ (pS I j).1, z < 256) ∧ ((pS I j).2 = 0 ∨ (pS I j).2 = 132)
/-- a part's slice -/
def qv (qs : List (Value × Int)) (j : Nat) : Value := (qs.getD j (.slice none 0 0, 0)).1
theorem Pts.below {B : Nat} {I : Im} {pb : Nat} {qs : List (Value × Int)} {W W' : World} (h : Pts B I pb qs W) (hb : Below W.heap.size W W') : Pts B I pb qs W' :=
  ⟨h.len, (hb.block pb (Array.getElem?_eq_some_iff.1 h.blk).1).trans h.blk, h.hB, fun j hj => ⟨(h.own j hj).1.below hb, (h.own j hj).2⟩, h.sm⟩
theorem Pts.part {B : Nat} {I : Im} {pb : Nat} {qs : List (Value × Int)} {W : World} (h : Pts B I pb qs W) {j : Nat} (hj : j < 8) : W.cell? ⟨pb, j * 2, none⟩ = some (qv qs j) ∧ W.cell? ⟨pb, j * 2 + 1, none⟩ = some (.int .i64 (pS I j).2) ∧ Own W B (qv qs j) (pS I j).1 ∧ ∃ a c, qv qs j = .slice a (pS I j).1.length c := by
  have hjl : j < qs.length := by rw [h.len]; exact hj
  have e : qv qs j = qs[j].1 := by unfold qv; rw [List.getD_eq_getElem?_getD, List.getElem?_eq_getElem hjl]; rfl
  obtain ⟨h1, h2⟩ := h.own j hjl
  have g : ∀ (xs : List (Value × Int)) (j r : Nat) (hj : j < xs.length), r < 2 → (encs ldE xs)[j * 2 + r]? = (ldE xs[j])[r]? := fun xs => by
    induction xs with
    | nil => intro j r hj; simp at hj
    | cons x xs ih =>
      intro j r hj hr
      cases j with
      | zero =>
        rw [show encs ldE (x :: xs) = ldE x ++ encs ldE xs from rfl, List.getElem?_append_left (by simp [ldE]; omega)]
        simp
      | succ j =>
        rw [show encs ldE (x :: xs) = ldE x ++ encs ldE xs from rfl, List.getElem?_append_right (by simp [ldE]; omega)]
        have := ih j r (by simpa using hj) hr
        rw [show (j + 1) * 2 + r - (ldE x).length = j * 2 + r by simp [ldE]; omega]
        simpa using this
  rw [e]
  refine ⟨?_, ?_, h1, own_slice h1⟩
  · rw [box_cell h.blk (j * 2)]
    have := g qs j 0 hjl (by decide)
    rw [Nat.add_zero] at this
    rw [this]
    rfl
  · rw [box_cell h.blk (j * 2 + 1), g qs j 1 hjl (by decide), ← h2]
    rfl
theorem plc_le : ∀ (ls : List Nat) (k a M : Nat), (∀ l ∈ ls, l ≤ M) → (plc k a ls).2 ≤ a + ls.length * (M + 4102)
  | [], _, _, _, _ => by simp [plc]
  | x :: ls, k, a, M, h => by
    rw [plc]
    have h1 := plc_le ls (k + 1) (begD k a + x) M (fun l hl => h l (List.mem_cons_of_mem _ hl))
    have h2 := h x (List.mem_cons_self ..)
    have h3 := begD_le k a
    rw [List.length_cons, Nat.add_mul]
    omega
theorem lsD_len (I : Im) : (lsD I).length = 8 := by simp [lsD]
theorem lsD_get (I : Im) {j : Nat} (hj : j < (lsD I).length) : (lsD I)[j] = (pS I j).1.length := by simp [lsD]
theorem lsD_le {I : Im} (h : ∀ k, (pS I k).1.length ≤ 270000000) : ∀ l ∈ lsD I, l ≤ 270000000 := fun l hl => by
  unfold lsD at hl
  obtain ⟨k, _, rfl⟩ := List.mem_map.1 hl
  exact h k
theorem plc_ok {I : Im} (h : ∀ k, (pS I k).1.length ≤ 270000000) : (∀ i, i ≤ (lsD I).length → (plc 0 160 ((lsD I).take i)).2 ≤ 2305843009213693952) ∧ (∀ (i : Nat) (hi : i < (lsD I).length), (lsD I)[i] ≤ 2305843009213693952) ∧ endD I ≤ 3000000000 := by
  have hm : ∀ ls : List Nat, (∀ l ∈ ls, l ≤ 270000000) → ls.length ≤ 8 → (plc 0 160 ls).2 ≤ 3000000000 := fun ls h1 h2 => by
    have h9 := plc_le ls 0 160 270000000 h1
    have h7 : ls.length * (270000000 + 4102) ≤ 8 * (270000000 + 4102) := Nat.mul_le_mul_right _ h2
    omega
  refine ⟨fun i hi => Nat.le_trans (hm _ (fun l hl => lsD_le h l (List.mem_of_mem_take hl)) ?_) (by decide), fun i hi => Nat.le_trans (lsD_le h _ (List.getElem_mem hi)) (by decide), hm _ (lsD_le h) (by rw [lsD_len]; exact Nat.le_refl _)⟩
  rw [List.length_take, lsD_len]
  omega
theorem lsD_take (I : Im) {j : Nat} (hj : j < 8) : (lsD I).take (j + 1) = (lsD I).take j ++ [(pS I j).1.length] := by
  rw [List.take_succ_eq_append_getElem (by rw [lsD_len]; exact hj), lsD_get]
theorem worst_in (I : Im) : worstD I = 0 ∨ worstD I = 3 ∨ worstD I = 132 := by
  unfold worstD
  split
  · exact .inr (.inr rfl)
  · split
    · exact .inr (.inl rfl)
    · exact .inl rfl
theorem noK_in {I : Im} (h : ∀ j, j < 8 → (pS I j).2 = 0 ∨ (pS I j).2 = 132) : ∀ k, k ≤ 8 → noK I k = 0 ∨ noK I k = 3 ∨ noK I k = 132
  | 0, _ => worst_in I
  | k + 1, hk => by
    rw [noK]
    split
    · rcases h k (by omega) with e | e
      · exact .inl e
      · exact .inr (.inr e)
    · exact noK_in h k (by omega)
def fewV (I : Im) (ta : Option Addr) (tc : Nat) : Value := if 1024 < I.tabs.length then .slice none 0 0 else .slice ta I.tabs.length tc
theorem few_row {w : World} {I : Im} {ta : Option Addr} {tc : Nat} (h : TbG w (.slice ta I.tabs.length tc) I.tabs) : TbG w (fewV I ta tc) (fewD I) := by
  unfold fewD fewV
  split
  · exact ⟨none, 0, rfl, Nat.le_refl _, Nat.zero_le _, fun i hi => absurd hi (Nat.not_lt_zero _)⟩
  · exact h
theorem few_len (I : Im) : (fewD I).length ≤ 1024 := by
  unfold fewD
  split
  · exact Nat.zero_le _
  · omega
theorem few_mem (I : Im) : ∀ f ∈ fewD I, f ∈ I.tabs := fun f hf => by
  unfold fewD at hf
  split at hf
  · cases hf
  · exact hf
end Go.Proofs.YtmfkggngjeolcaaGreatDoor
