import Derived.Test.YtmfkggngjeolcaaGreatDoorPk27
import Derived.Test.YtmfkggngjeolcaaGreatDoorPk17
import Derived.Test.YtmfkggngjeolcaaGreatDoorPk23
set_option linter.unusedSimpArgs false
set_option linter.unusedVariables false
namespace Go.Proofs.YtmfkggngjeolcaaGreatDoor
open Bn
structure Cod {γ : Type} (d e : γ → γ → Prop) (f : γ → S → S) : Prop where
 up : ∀ x s, s.1 <+: (f x s).1
 why : ∀ x s, (f x s).2 = 0 → s.2 = 0
 inj : ∀ x y s t Z, d x y → s.1 = t.1 → (f x s).1 <+: Z → (f y t).1 <+: Z → (f x s).2 = 0 → (f y t).2 = 0 → e x y ∧ (f x s).1 = (f y t).1
theorem Cod.comp {γ : Type} {d e e' : γ → γ → Prop} {f g : γ → S → S} (hf : Cod d e f) (hg : Cod (fun x y => d x y ∧ e x y) e' g) : Cod d (fun x y => e x y ∧ e' x y) (fun x s => g x (f x s)) where
 up x s := (hf.up x s).trans (hg.up x _)
 why x s h := hf.why x s (hg.why x _ h)
 inj x y s t Z hd hs h1 h2 w1 w2 := by
  obtain ⟨a, b⟩ := hf.inj x y s t Z hd hs ((hg.up x _).trans h1) ((hg.up y _).trans h2) (hg.why x _ w1) (hg.why y _ w2);obtain ⟨a', b'⟩ := hg.inj x y _ _ Z ⟨hd, a⟩ b h1 h2 w1 w2;exact ⟨⟨a, a'⟩, b'⟩
theorem Cod.weak {γ : Type} {d d' e e' : γ → γ → Prop} {f : γ → S → S} (hf : Cod d e f) (hd : ∀ x y, d' x y → d x y) (he : ∀ x y, d' x y → e x y → e' x y) : Cod d' e' f where
 up := hf.up
 why := hf.why
 inj x y s t Z h hs h1 h2 w1 w2 := by
  obtain ⟨a, b⟩ := hf.inj x y s t Z (hd x y h) hs h1 h2 w1 w2;exact ⟨he x y h a, b⟩
theorem ask_zero {why : Int} {b : Bool} {n : Int} (hn : n ≠ 0) (h : askF why b n = 0) : why = 0 ∧ b = true := by
 unfold askF at h
 split at h
 ·exact absurd h hn
 ·rename_i h'
  subst h;refine ⟨rfl, ?_⟩
  cases b
  ·exact absurd ⟨rfl, by decide⟩ h'
  ·rfl
abbrev any {γ : Type} : γ → γ → Prop := fun _ _ => True
theorem Cod.then {γ : Type} {d e e' : γ → γ → Prop} {f g : γ → S → S} (hf : Cod d e f) (hg : Cod any e' g) : Cod d (fun x y => e x y ∧ e' x y) (fun x s => g x (f x s)) := hf.comp (hg.weak (fun _ _ _ => trivial) (fun _ _ _ h => h))
theorem Cod.ok {γ : Type} {e : γ → γ → Prop} {f : γ → S → S} (h : Cod any e f) : Cod (fun x y => (fun _ => True) x ∧ (fun _ => True) y) e f := h.weak (fun _ _ _ => trivial) (fun _ _ _ h => h)
structure ImK (I : Im) : Prop where
 base : I.base ≤ 18446744073709551615
 rams : ∀ x ∈ I.rams, rgOk x
 devs : ∀ x ∈ I.devs, rgOk x
 regs : ∀ x ∈ I.regs, gdOk x
 tabs : ∀ x ∈ I.tabs, tbOk x
abbrev two (I J : Im) : Prop := ImK I ∧ ImK J
end Go.Proofs.YtmfkggngjeolcaaGreatDoor
namespace Go.Proofs.YtmfkggngjeolcaaGreatDoor
open Bn Dc
namespace Dc
structure Ah (q : Pt) (s : D) (l : List Nat) : Prop where
 rw0 : s.rw = 0
 le : s.pos + l.length ≤ q.Z.length
 eq : ∃ u, q.Z.drop s.pos = l ++ u
def fw (s : D) (n : Nat) : D := ⟨s.pos + n, 0, s.why, s.sec, s.ad⟩
theorem fw_fw (s : D) (a b : Nat) : fw (fw s a) b = fw s (a + b) := by simp [fw, Nat.add_assoc]
theorem fw_zero {s : D} (h : s.rw = 0) : fw s 0 = s := by
 obtain ⟨a, b, c, d, e⟩ := s;dsimp only at h;subst h
 rfl
theorem Ah.left {q : Pt} {s : D} {a b : List Nat} (h : Ah q s (a ++ b)) : Ah q s a := by
 obtain ⟨u, hu⟩ := h.eq;refine ⟨h.rw0, ?_, b ++ u, by rw [hu, List.append_assoc]⟩;have := h.le;rw [List.length_append] at this;omega
theorem Ah.right {q : Pt} {s : D} {a b : List Nat} (h : Ah q s (a ++ b)) : Ah q (fw s a.length) b := by
 obtain ⟨u, hu⟩ := h.eq;have hl := h.le;rw [List.length_append] at hl;refine ⟨rfl, by show s.pos + a.length + b.length ≤ _; omega, u, ?_⟩
 show q.Z.drop (s.pos + a.length) = b ++ u
 rw [← List.drop_drop, hu, List.append_assoc, List.drop_left]
def layL {γ : Type} (f : Nat → γ → List Nat) : Nat → List γ → List Nat
 | _, [] => []
 | a, x :: xs => f a x ++ layL f (a + (f a x).length) xs
theorem layL_snoc {γ : Type} (f : Nat → γ → List Nat) (x : γ) : ∀ (xs : List γ) (a : Nat), layL f a (xs ++ [x]) = layL f a xs ++ f (a + (layL f a xs).length) x
 | [], a => by simp [layL]
 | y :: ys, a => by
  rw [List.cons_append, layL, layL_snoc f x ys, layL, List.append_assoc, List.length_append, Nat.add_assoc]
end Dc
end Go.Proofs.YtmfkggngjeolcaaGreatDoor
namespace Go.Proofs.YtmfkggngjeolcaaGreatDoor
open Bn Dc
namespace Dc
def b1 (k : Int) : List Nat := Pl.le 1 (k % 256).toNat
def b2 (k : Int) : List Nat := Pl.le 2 (k % 65536).toNat
def b4 (k : Int) : List Nat := Pl.le 4 (k % 4294967296).toNat
def bf (b : Bool) : List Nat := b1 (if b = true then 1 else 0)
def bz (n : Nat) : List Nat := List.replicate n 0
theorem b1_len (k : Int) : (b1 k).length = 1 := Pl.le_length _ _
theorem b2_len (k : Int) : (b2 k).length = 2 := Pl.le_length _ _
theorem b4_len (k : Int) : (b4 k).length = 4 := Pl.le_length _ _
theorem bf_len (k : Bool) : (bf k).length = 1 := Pl.le_length _ _
theorem bz_len (n : Nat) : (bz n).length = n := List.length_replicate
def rangeB (r : Rg) : List Nat := Pl.le 8 r.1 ++ Pl.le 8 r.2
def tenB (x : Tn) : List Nat := b1 x.cpu ++ (bf x.st ++ (b1 x.rule ++ (b1 x.vec ++ (b2 x.to ++ b2 x.root))))
def portB (r : Int) : List Nat := b2 r ++ bz 6
def chB (c : Lk) : List Nat := b2 c.fr ++ (b2 c.to ++ (b1 c.eff ++ (b1 c.vec ++ bz 2)))
def iqB (c : Lk) : List Nat := b2 c.fr ++ (b2 c.to ++ (b1 c.vec ++ (bf c.msk ++ bz 2)))
def stB (x : Int × Int) : List Nat := b2 x.1 ++ (bz 2 ++ b4 x.2)
def f1 (k : Int) : Prop := 0 ≤ k ∧ k ≤ 255
def f2 (k : Int) : Prop := 0 ≤ k ∧ k ≤ 65535
def fn (k : Int) : Prop := -1 ≤ k ∧ k < 65535
def f4 (k : Int) : Prop := 0 ≤ k ∧ k ≤ 4294967295
theorem rangeB_len (r : Rg) : (rangeB r).length = 16 := by rw [rangeB, List.length_append, Pl.le_length, Pl.le_length]
theorem tenB_len (x : Tn) : (tenB x).length = 8 := by simp [tenB, b1_len, b2_len, bf_len]
theorem portB_len (x : Int) : (portB x).length = 8 := by simp [portB, b2_len, bz_len]
theorem chB_len (x : Lk) : (chB x).length = 8 := by simp [chB, b1_len, b2_len, bz_len]
theorem iqB_len (x : Lk) : (iqB x).length = 8 := by simp [iqB, b1_len, b2_len, bf_len, bz_len]
theorem stB_len (x : Int × Int) : (stB x).length = 8 := by simp [stB, b2_len, b4_len, bz_len]
section
variable {q : Pt} {s : D}
end
end Dc
end Go.Proofs.YtmfkggngjeolcaaGreatDoor
