import Derived.Test.YtnifefmfhjfbnaaGreatDoorPk36
import Derived.Test.YtnifefmfhjfbnaaGreatDoorPk25
import Derived.Test.YtnifefmfhjfbnaaGreatDoorPk34
/- Bundle: what is laid down says what was laid down: one part behind the other. Plain. Own work. -/
namespace Go.Proofs.YtnifefmfhjfbnaaGreatDoor
open Bn
set_option linter.unusedVariables false
set_option linter.unusedSimpArgs false
theorem le_inj : ∀ (k a b : Nat), a < 256 ^ k → b < 256 ^ k → Pl.le k a = Pl.le k b → a = b
 | 0, a, b, ha, hb, _ => by simp at ha hb; omega
 | k + 1, a, b, ha, hb, h => by
  simp only [Pl.le, List.cons.injEq] at h
  have := le_inj k (a / 256) (b / 256) (by rw [Nat.pow_succ] at ha; omega) (by rw [Nat.pow_succ] at hb; omega) h.2
  omega
/-- f lays bytes behind what is there; of the same beginning with d, it says e -/
structure Cod {γ : Type} (d e : γ → γ → Prop) (f : γ → S → S) : Prop where
 up : ∀ x s, s.1 <+: (f x s).1
 why : ∀ x s, (f x s).2 = 0 → s.2 = 0
 inj : ∀ x y s t Z, d x y → s.1 = t.1 → (f x s).1 <+: Z → (f y t).1 <+: Z → (f x s).2 = 0 → (f y t).2 = 0 → e x y ∧ (f x s).1 = (f y t).1
theorem Cod.comp {γ : Type} {d e e' : γ → γ → Prop} {f g : γ → S → S} (hf : Cod d e f) (hg : Cod (fun x y => d x y ∧ e x y) e' g) : Cod d (fun x y => e x y ∧ e' x y) (fun x s => g x (f x s)) where
 up x s := (hf.up x s).trans (hg.up x _)
 why x s h := hf.why x s (hg.why x _ h)
 inj x y s t Z hd hs h1 h2 w1 w2 := by
  obtain ⟨a, b⟩ := hf.inj x y s t Z hd hs ((hg.up x _).trans h1) ((hg.up y _).trans h2) (hg.why x _ w1) (hg.why y _ w2)
  obtain ⟨a', b'⟩ := hg.inj x y _ _ Z ⟨hd, a⟩ b h1 h2 w1 w2
  exact ⟨⟨a, a'⟩, b'⟩
theorem Cod.weak {γ : Type} {d d' e e' : γ → γ → Prop} {f : γ → S → S} (hf : Cod d e f) (hd : ∀ x y, d' x y → d x y) (he : ∀ x y, d' x y → e x y → e' x y) : Cod d' e' f where
 up := hf.up
 why := hf.why
 inj x y s t Z h hs h1 h2 w1 w2 := by
  obtain ⟨a, b⟩ := hf.inj x y s t Z (hd x y h) hs h1 h2 w1 w2
  exact ⟨he x y h a, b⟩
theorem Cod.pre {γ α : Type} {d e : α → α → Prop} {f : α → S → S} (hf : Cod d e f) (p : γ → α) : Cod (fun x y => d (p x) (p y)) (fun x y => e (p x) (p y)) (fun x => f (p x)) where
 up x s := hf.up (p x) s
 why x s := hf.why (p x) s
 inj x y s t Z := hf.inj (p x) (p y) s t Z
theorem ask_zero {why : Int} {b : Bool} {n : Int} (hn : n ≠ 0) (h : askF why b n = 0) : why = 0 ∧ b = true := by
 unfold askF at h
 split at h
 ·exact absurd h hn
 ·rename_i h'
  subst h
  refine ⟨rfl, ?_⟩
  cases b
  ·exact absurd ⟨rfl, by decide⟩ h'
  ·rfl
/-- anything -/
abbrev any {γ : Type} : γ → γ → Prop := fun _ _ => True
/-- two rows, member by member -/
inductive Two {α : Type} (e : α → α → Prop) : List α → List α → Prop
 | nil : Two e [] []
 | cons {x y : α} {xs ys : List α} : e x y → Two e xs ys → Two e (x :: xs) (y :: ys)
theorem forall_eq {α : Type} : ∀ {xs ys : List α}, Two Eq xs ys → xs = ys
 | [], [], .nil => rfl
 | x :: xs, y :: ys, .cons h t => by rw [h, forall_eq t]
theorem Cod.then {γ : Type} {d e e' : γ → γ → Prop} {f g : γ → S → S} (hf : Cod d e f) (hg : Cod any e' g) : Cod d (fun x y => e x y ∧ e' x y) (fun x s => g x (f x s)) := hf.comp (hg.weak (fun _ _ _ => trivial) (fun _ _ _ h => h))
theorem Cod.ok {γ : Type} {e : γ → γ → Prop} {f : γ → S → S} (h : Cod any e f) : Cod (fun x y => (fun _ => True) x ∧ (fun _ => True) y) e f := h.weak (fun _ _ _ => trivial) (fun _ _ _ h => h)
theorem tb_inj (f g : Nat → Nat) : ∀ k, (∀ i, i < k → f i ≤ 18446744073709551615) → (∀ i, i < k → g i ≤ 18446744073709551615) → tb f k = tb g k → ∀ i, i < k → f i = g i
 | 0, _, _, _, i, hi => absurd hi (Nat.not_lt_zero _)
 | k + 1, hf, hg, h, i, hi => by
  rw [tb, tb] at h
  have hl : (tb f k).length = (tb g k).length := by rw [tb_eq, tb_eq, tbN_len, tbN_len]
  obtain ⟨h1, h2⟩ := List.append_inj h hl
  by_cases hk : i = k
  ·subst hk
   exact le_inj 8 _ _ (by have := hf i (by omega); omega) (by have := hg i (by omega); omega) h2
  ·exact tb_inj f g k (fun i hi => hf i (by omega)) (fun i hi => hg i (by omega)) h1 i (by omega)
theorem two_map {α β : Type} {f : α → β} : ∀ {xs ys : List α}, Two (fun x y => f x = f y) xs ys → xs.map f = ys.map f
 | [], [], .nil => rfl
 | x :: xs, y :: ys, .cons h t => by rw [List.map_cons, List.map_cons, h, two_map t]
/-- the numbers of an image are of their types -/
structure ImK (I : Im) : Prop where
 base : I.base ≤ 18446744073709551615
 rams : ∀ x ∈ I.rams, rgOk x
 devs : ∀ x ∈ I.devs, rgOk x
 regs : ∀ x ∈ I.regs, gdOk x
 tabs : ∀ x ∈ I.tabs, tbOk x
abbrev two (I J : Im) : Prop := ImK I ∧ ImK J
/-- a part, and the zeros ahead of it -/
def partS (k : Nat) (I : Im) (s : S) : S := secS I k (zerosS (begN k s.1.length - s.1.length) s)
def eightS (I : Im) (s : S) : S := partS 7 I (partS 6 I (partS 5 I (partS 4 I (partS 3 I (partS 2 I (partS 1 I (partS 0 I s)))))))
theorem st_one (I : Im) : (stN I 1).1 = List.replicate 160 0 := by
 have : begN 0 0 = 0 := by decide
 show (secS I 0 (zerosS (begN 0 0 - 0) ([], 0))).1 = _
 rw [this]
 rfl
theorem tb_same (f g : Nat → Nat) : ∀ k, (∀ i, i < k → f i = g i) → tb f k = tb g k
 | 0, _ => rfl
 | k + 1, h => by rw [tb, tb, tb_same f g k (fun i hi => h i (by omega)), h k (by omega)]
theorem tabs_same : ∀ (xs ys : List (Nat → Nat)) (s : S), xs.map tf = ys.map tf → eachS tabS xs s = eachS tabS ys s
 | [], [], s, _ => rfl
 | [], y :: ys, s, h => by simp at h
 | x :: xs, [], s, h => by simp at h
 | x :: xs, y :: ys, s, h => by
  simp only [List.map_cons, List.cons.injEq] at h
  have : tabS x s = tabS y s := by
   rw [tabS, tabS, tb_same x y 512 (fun i hi => congrFun h.1 ⟨i, hi⟩)]
  rw [eachS, eachS, this]
  exact tabs_same xs ys _ h.2
theorem st_same {I J : Im} (h : alike I J) : ∀ k, stN I k = stN J k := by
 obtain ⟨h1, h2, h3, ⟨h4, h5⟩, h6, h7, h8, h9, h10, h11, h12⟩ := h
 cases I
 cases J
 simp only at h1 h2 h3 h4 h5 h6 h7 h8 h9 h10 h11 h12
 subst h1 h2 h3 h4 h5 h6 h7 h8 h9 h10 h11
 intro k
 induction k with
 | zero => rfl
 | succ k ih =>
  rw [stN, stN, ih]
  match k with
  | 0 => rfl
  | 1 => rfl
  | 2 => rfl
  | 3 => rfl
  | 4 => rfl
  | 5 => rfl
  | 6 => rfl
  | 7 => rfl
  | k + 8 => exact tabs_same _ _ _ h12
theorem enc_same {I J : Im} (h : alike I J) : encF I = encF J := by
 have hs : stN I = stN J := funext (st_same h)
 have hf : fstN I = fstN J := funext fun k => by rw [fstN, fstN, hs]
 have hl : lenN I = lenN J := funext fun k => by rw [lenN, lenN, hs, hf]
 have hz : ∀ zs i, secZ I zs i = secZ J zs i := fun zs i => by rw [secZ, secZ, hf, hl]
 have hp : ∀ zs i, hdP I zs i = hdP J zs i := fun zs i => by
  induction i with
  | zero => rw [hdP, hdP, h.1]
  | succ i ih => rw [hdP, hdP, ih, hf, hl, hz]
 rw [encF, encF, hdF, hdF, hs, hp]
end Go.Proofs.YtnifefmfhjfbnaaGreatDoor
/- Bundle: what was laid is read back. Plain. Own work. -/
namespace Go.Proofs.YtnifefmfhjfbnaaGreatDoor
open Bn Dc
set_option linter.unusedVariables false
set_option linter.unusedSimpArgs false
namespace Dc
/-- these bytes stand ahead -/
structure Ah (q : Pt) (s : D) (l : List Nat) : Prop where
 rw0 : s.rw = 0
 le : s.pos + l.length ≤ q.Z.length
 eq : ∃ u, q.Z.drop s.pos = l ++ u
/-- so many bytes further -/
def fw (s : D) (n : Nat) : D := ⟨s.pos + n, 0, s.why, s.sec, s.ad⟩
theorem fw_fw (s : D) (a b : Nat) : fw (fw s a) b = fw s (a + b) := by simp [fw, Nat.add_assoc]
theorem fw_zero {s : D} (h : s.rw = 0) : fw s 0 = s := by
 obtain ⟨a, b, c, d, e⟩ := s
 dsimp only at h
 subst h
 rfl
theorem Ah.left {q : Pt} {s : D} {a b : List Nat} (h : Ah q s (a ++ b)) : Ah q s a := by
 obtain ⟨u, hu⟩ := h.eq
 refine ⟨h.rw0, ?_, b ++ u, by rw [hu, List.append_assoc]⟩
 have := h.le
 rw [List.length_append] at this
 omega
theorem Ah.right {q : Pt} {s : D} {a b : List Nat} (h : Ah q s (a ++ b)) : Ah q (fw s a.length) b := by
 obtain ⟨u, hu⟩ := h.eq
 have hl := h.le
 rw [List.length_append] at hl
 refine ⟨rfl, by show s.pos + a.length + b.length ≤ _; omega, u, ?_⟩
 show q.Z.drop (s.pos + a.length) = b ++ u
 rw [← List.drop_drop, hu, List.append_assoc, List.drop_left]
theorem take_back {q : Pt} {s : D} {k n : Nat} (h : Ah q s (Pl.le k n)) (hn : n < 256 ^ k) : takeD q k s = (n, fw s k) := by
 have hl := h.le
 rw [Pl.le_length] at hl
 obtain ⟨u, hu⟩ := h.eq
 unfold takeD fw
 rw [if_pos h.rw0, if_pos hl, hu, Pl.num_le k n u hn, h.rw0]
theorem bytes_back {q : Pt} {s : D} {l : List Nat} (h : Ah q s l) : bytesD q l.length s = (l, fw s l.length) := by
 obtain ⟨u, hu⟩ := h.eq
 unfold bytesD fw
 rw [if_pos h.rw0, if_pos h.le, hu, h.rw0, List.take_left']
 rfl
theorem zeros_back {q : Pt} {s : D} {n : Nat} (h : Ah q s (List.replicate n 0)) : zerosD q n s = fw s n := by
 have h9 := bytes_back h
 rw [List.length_replicate] at h9
 unfold zerosD
 rw [h9, show allZ (List.replicate n 0) = true from decide_eq_true (fun z hz => List.eq_of_mem_replicate hz), form_true]
theorem half_back {q : Pt} {s : D} {k : Int} (h : Ah q s (Pl.le 2 (k % 65536).toNat)) (hk : 0 ≤ k ∧ k ≤ 65535) : takeD q 2 s = (k.toNat, fw s 2) := by
 rw [take_back h (by omega), show (k % 65536).toNat = k.toNat by omega]
theorem byte_back {q : Pt} {s : D} {k : Int} (h : Ah q s (Pl.le 1 (k % 256).toNat)) (hk : 0 ≤ k ∧ k ≤ 255) : takeD q 1 s = (k.toNat, fw s 1) := by
 rw [take_back h (by omega), show (k % 256).toNat = k.toNat by omega]
theorem word_back {q : Pt} {s : D} {k : Int} (h : Ah q s (Pl.le 4 (k % 4294967296).toNat)) (hk : 0 ≤ k ∧ k ≤ 4294967295) : takeD q 4 s = (k.toNat, fw s 4) := by
 rw [take_back h (by omega), show (k % 4294967296).toNat = k.toNat by omega]
theorem none_back {q : Pt} {s : D} {k : Int} (h : Ah q s (Pl.le 2 (k % 65536).toNat)) (hk : -1 ≤ k ∧ k < 65535) : noneD q s = (k, fw s 2) := by
 unfold noneD
 rw [take_back h (by omega)]
 refine Prod.ext ?_ rfl
 show noneV (k % 65536).toNat = k
 unfold noneV
 split <;> omega
theorem flag_back {q : Pt} {s : D} {b : Bool} (h : Ah q s (Pl.le 1 ((if b = true then (1 : Int) else 0) % 256).toNat)) : flagD q s = (b, fw s 1) := by
 unfold flagD
 rw [byte_back h (by cases b <;> simp)]
 cases b
 ·rw [show decide (((if false = true then (1 : Int) else 0).toNat) ≤ 1) = true from rfl, form_true]; rfl
 ·rw [show decide (((if true = true then (1 : Int) else 0).toNat) ≤ 1) = true from rfl, form_true]; rfl
/-- things one behind the other: what each lays hangs on where it lies -/
def layL {γ : Type} (f : Nat → γ → List Nat) : Nat → List γ → List Nat
 | _, [] => []
 | a, x :: xs => f a x ++ layL f (a + (f a x).length) xs
theorem layL_snoc {γ : Type} (f : Nat → γ → List Nat) (x : γ) : ∀ (xs : List γ) (a : Nat), layL f a (xs ++ [x]) = layL f a xs ++ f (a + (layL f a xs).length) x
 | [], a => by simp [layL]
 | y :: ys, a => by
  rw [List.cons_append, layL, layL_snoc f x ys, layL, List.append_assoc, List.length_append, Nat.add_assoc]
theorem list_back {γ : Type} {q : Pt} {f : Nat → γ → List Nat} {one : D → γ × D} {xs : List γ} {a : Nat} {s : D} (ho : ∀ (b : Nat) (x : γ) (t : D), x ∈ xs → t.why = 0 → t.pos % 8 = b % 8 → Ah q t (f b x) → one t = (x, fw t (f b x).length)) (hw : s.why = 0) (hp : s.pos % 8 = a % 8) (h : Ah q s (layL f a xs)) : ∀ i, i ≤ xs.length → listD one i s = (xs.take i, if i = 0 then s else fw s (layL f a (xs.take i)).length)
 | 0, _ => by simp [listD]
 | i + 1, hi => by
  have ih := list_back ho hw hp h i (by omega)
  have hx : xs.take (i + 1) = xs.take i ++ [xs[i]] := List.take_succ_eq_append_getElem (by omega)
  have hxs : xs = xs.take i ++ xs.drop i := (List.take_append_drop i xs).symm
  have h1 : Ah q s (layL f a (xs.take (i + 1))) := by
   have h9 := h
   have app : ∀ (ys zs : List γ) (a : Nat), layL f a (ys ++ zs) = layL f a ys ++ layL f (a + (layL f a ys).length) zs := fun ys => by
    induction ys with
    | nil => intro zs a; simp [layL]
    | cons y ys ih => intro zs a; rw [List.cons_append, layL, ih, layL, List.append_assoc, List.length_append, Nat.add_assoc]
   rw [← List.take_append_drop (i + 1) xs, app] at h9
   exact h9.left
  rw [hx, layL_snoc] at h1
  have h2 := h1.right
  have e0 : (if i = 0 then s else fw s (layL f a (xs.take i)).length) = fw s (layL f a (xs.take i)).length := by
   split
   ·rename_i e
    subst e
    show s = fw s 0
    exact (fw_zero h.rw0).symm
   ·rfl
  rw [e0] at ih
  have hg : goD (listD one i s).2 = true := by
   rw [ih]
   simp [goD, fw, hw]
  rw [listD_next one i s hg, ih]
  have h3 := ho _ xs[i] (fw s (layL f a (xs.take i)).length) (List.getElem_mem _) hw (by show (s.pos + _) % 8 = (a + _) % 8; omega) h2
  dsimp only
  rw [h3, if_neg (by omega), hx, layL_snoc, List.length_append, fw_fw]
end Dc
end Go.Proofs.YtnifefmfhjfbnaaGreatDoor
