import Derived.Test.YtnifefmfhjfbnaaGreatDoorPk37
/- Bundle: things that were laid are read back. Plain. Own work. -/
namespace Go.Proofs.YtnifefmfhjfbnaaGreatDoor
open Bn Dc
set_option linter.unusedVariables false
set_option linter.unusedSimpArgs false
namespace Dc
def b1 (k : Int) : List Nat := Pl.le 1 (k % 256).toNat
def b2 (k : Int) : List Nat := Pl.le 2 (k % 65536).toNat
def b4 (k : Int) : List Nat := Pl.le 4 (k % 4294967296).toNat
def bf (b : Bool) : List Nat := b1 (if b = true then 1 else 0)
def bz (n : Nat) : List Nat := List.replicate n 0
theorem b1_len (k : Int) : (b1 k).length = 1 := Pl.le_length _ _
theorem b2_len (k : Int) : (b2 k).length = 2 := Pl.le_length _ _
theorem b4_len (k : Int) : (b4 k).length = 4 := Pl.le_length _ _
theorem bf_len (k : Bool) : (bf k).length = 1 := Pl.le_length _ _
theorem bz_len (n : Nat) : (bz n).length = n := List.length_replicate
def rangeB (r : Rg) : List Nat := Pl.le 8 r.1 ++ Pl.le 8 r.2
def tenB (x : Tn) : List Nat := b1 x.cpu ++ (bf x.st ++ (b1 x.rule ++ (b1 x.vec ++ (b2 x.to ++ b2 x.root))))
def portB (r : Int) : List Nat := b2 r ++ bz 6
def chB (c : Lk) : List Nat := b2 c.fr ++ (b2 c.to ++ (b1 c.eff ++ (b1 c.vec ++ bz 2)))
def iqB (c : Lk) : List Nat := b2 c.fr ++ (b2 c.to ++ (b1 c.vec ++ (bf c.msk ++ bz 2)))
def stB (x : Int × Int) : List Nat := b2 x.1 ++ (bz 2 ++ b4 x.2)
def f1 (k : Int) : Prop := 0 ≤ k ∧ k ≤ 255
def f2 (k : Int) : Prop := 0 ≤ k ∧ k ≤ 65535
def fn (k : Int) : Prop := -1 ≤ k ∧ k < 65535
def f4 (k : Int) : Prop := 0 ≤ k ∧ k ≤ 4294967295
theorem rangeB_len (r : Rg) : (rangeB r).length = 16 := by rw [rangeB, List.length_append, Pl.le_length, Pl.le_length]
theorem tenB_len (x : Tn) : (tenB x).length = 8 := by simp [tenB, b1_len, b2_len, bf_len]
theorem portB_len (x : Int) : (portB x).length = 8 := by simp [portB, b2_len, bz_len]
theorem chB_len (x : Lk) : (chB x).length = 8 := by simp [chB, b1_len, b2_len, bz_len]
theorem iqB_len (x : Lk) : (iqB x).length = 8 := by simp [iqB, b1_len, b2_len, bf_len, bz_len]
theorem stB_len (x : Int × Int) : (stB x).length = 8 := by simp [stB, b2_len, b4_len, bz_len]
section
variable {q : Pt} {s : D}
theorem span_back {r : Rg} (h : Ah q s (rangeB r)) (hr : rgOk r) : spanD q s = (r, fw s (rangeB r).length) := by
 have h1 := take_back h.left (by have := hr.1; omega)
 have h2 := h.right
 rw [Pl.le_length] at h2
 have h3 := take_back h2 (by have := hr.2; omega)
 rw [rangeB_len]
 simp only [spanD, h1, h3]
 simp only [fw_fw]
theorem ten_back {x : Tn} (h : Ah q s (tenB x)) (h1 : f1 x.cpu) (h2 : f1 x.rule) (h3 : f1 x.vec) (h4 : fn x.to) (h5 : fn x.root) : tenD q s = (x, fw s (tenB x).length) := by
 have g1 := byte_back h.left h1
 have k1 := h.right
 rw [b1_len] at k1
 have g2 := flag_back k1.left
 have k2 := k1.right
 rw [bf_len] at k2
 have g3 := byte_back k2.left h2
 have k3 := k2.right
 rw [b1_len] at k3
 have g4 := byte_back k3.left h3
 have k4 := k3.right
 rw [b1_len] at k4
 have g5 := none_back k4.left h4
 have k5 := k4.right
 rw [b2_len] at k5
 have g6 := none_back k5 h5
 rw [tenB_len]
 simp only [tenD, g1, g2, g3, g4, g5, g6]
 simp only [fw_fw]
 obtain ⟨a, b, c, d, e, f⟩ := x
 have := h1.1
 have := h2.1
 have := h3.1
 simp only at *
 refine Prod.ext ?_ rfl
 show Tn.mk _ _ _ _ _ _ = Tn.mk _ _ _ _ _ _
 congr <;> omega
theorem port_back {x : Int} (h : Ah q s (portB x)) (h1 : fn x) : portD q s = (x, fw s (portB x).length) := by
 have g1 := none_back h.left h1
 have k1 := h.right
 rw [b2_len] at k1
 have g2 := zeros_back k1
 rw [portB_len]
 simp only [portD, g1, g2]
 simp only [fw_fw]
theorem ch_back {x : Lk} (h : Ah q s (chB x)) (h1 : fn x.fr) (h2 : fn x.to) (h3 : f1 x.eff) (h4 : f1 x.vec) (h5 : x.msk = false) : chD q s = (x, fw s (chB x).length) := by
 have g1 := none_back h.left h1
 have k1 := h.right
 rw [b2_len] at k1
 have g2 := none_back k1.left h2
 have k2 := k1.right
 rw [b2_len] at k2
 have g3 := byte_back k2.left h3
 have k3 := k2.right
 rw [b1_len] at k3
 have g4 := byte_back k3.left h4
 have k4 := k3.right
 rw [b1_len] at k4
 have g5 := zeros_back k4
 rw [chB_len]
 simp only [chD, g1, g2, g3, g4, g5]
 simp only [fw_fw]
 obtain ⟨a, b, c, d, e⟩ := x
 have := h3.1
 have := h4.1
 simp only at *
 subst h5
 refine Prod.ext ?_ rfl
 show Lk.mk _ _ _ _ _ = Lk.mk _ _ _ _ _
 congr <;> omega
theorem iq_back {x : Lk} (h : Ah q s (iqB x)) (h1 : fn x.fr) (h2 : fn x.to) (h3 : x.eff = 1) (h4 : f1 x.vec) : iqD q s = (x, fw s (iqB x).length) := by
 have g1 := none_back h.left h1
 have k1 := h.right
 rw [b2_len] at k1
 have g2 := none_back k1.left h2
 have k2 := k1.right
 rw [b2_len] at k2
 have g3 := byte_back k2.left h4
 have k3 := k2.right
 rw [b1_len] at k3
 have g4 := flag_back k3.left
 have k4 := k3.right
 rw [bf_len] at k4
 have g5 := zeros_back k4
 rw [iqB_len]
 simp only [iqD, g1, g2, g3, g4, g5]
 simp only [fw_fw]
 obtain ⟨a, b, c, d, e⟩ := x
 have := h4.1
 simp only at *
 subst h3
 refine Prod.ext ?_ rfl
 show Lk.mk _ _ _ _ _ = Lk.mk _ _ _ _ _
 congr <;> omega
theorem st_back {x : Int × Int} (h : Ah q s (stB x)) (h1 : fn x.1) (h2 : f4 x.2) : stD q s = (x, fw s (stB x).length) := by
 have g1 := none_back h.left h1
 have k1 := h.right
 rw [b2_len] at k1
 have g2 := zeros_back k1.left
 have k2 := k1.right
 rw [bz_len] at k2
 have g3 := word_back k2 h2
 rw [stB_len]
 simp only [stD, g1, g2, g3]
 simp only [fw_fw]
 obtain ⟨a, b⟩ := x
 have := h2.1
 simp only at *
 refine Prod.ext ?_ rfl
 refine Prod.ext rfl ?_
 show ((b.toNat : Nat) : Int) = b
 omega
end
end Dc
end Go.Proofs.YtnifefmfhjfbnaaGreatDoor
/- Bundle: texts, grounds, lanes, plans that were laid are read back. Plain. Own work. -/
namespace Go.Proofs.YtnifefmfhjfbnaaGreatDoor
open Bn Dc
set_option linter.unusedVariables false
set_option linter.unusedSimpArgs false
namespace Dc
theorem mkS_bts (t : ByteArray) : mkS (bts t) = t := by
 have e : UInt8.ofNat ∘ UInt8.toNat = id := funext fun x => by simp
 unfold mkS bts
 rw [List.map_map, e, List.map_id]
theorem gap_up {n a : Nat} (h : n % 8 = a % 8) : upN a 8 - a = gapN n 8 := by
 unfold upN gapN
 split <;> omega
def textB (a : Nat) (t : ByteArray) : List Nat := b4 (t.size : Int) ++ (bts t ++ bz (upN (a + 4 + t.size) 8 - (a + 4 + t.size)))
def gdB (a : Nat) (g : Gd) : List Nat := Pl.le 8 g.ad ++ (Pl.le 8 g.sz ++ (b1 (g.fill : Int) ++ (bz 3 ++ textB (a + 20) g.txt)))
def manyB (n : Nat) : List Nat := b2 (n : Int) ++ bz 6
def laneB (l : List (Int × Int)) : List Nat := manyB l.length ++ layL (fun _ => stB) 0 l
def planB (p : Sc) : List Nat := b4 p.maj ++ (bz 4 ++ layL (fun _ => laneB) 0 p.lanes)
section
variable {q : Pt} {s : D}
theorem pad_back {g : Nat} (h : Ah q s (bz g)) (hg : g = gapN s.pos 8) : padD q 8 s = fw s g := by
 obtain ⟨u, hu⟩ := h.eq
 have hl := h.le
 rw [bz_len] at hl
 unfold padD
 rw [if_pos h.rw0, ← hg, if_pos hl, hu, List.take_left' (bz_len g), if_pos (show allZ (bz g) = true from decide_eq_true (fun z hz => List.eq_of_mem_replicate hz)), h.rw0]
 rfl
theorem text_back {a : Nat} {t : ByteArray} (h : Ah q s (textB a t)) (hp : s.pos % 8 = a % 8) (ht : t.size ≤ 1048576) : textD q s = (t, fw s (textB a t).length) := by
 have g1 := word_back h.left (by omega)
 rw [show ((t.size : Nat) : Int).toNat = t.size by omega] at g1
 have k1 := h.right
 rw [b4_len] at k1
 have hl := k1.le
 rw [List.length_append, bts_len] at hl
 have g2 := bytes_back k1.left
 rw [bts_len] at g2
 have k2 := k1.right
 rw [bts_len] at k2
 have g3 := pad_back k2 (gap_up (by show (s.pos + 4 + t.size) % 8 = _; omega))
 have hf : (decide (t.size ≤ 1048576) && decide (t.size ≤ q.Z.length - (fw s 4).pos)) = true := by
  have : (fw s 4).pos = s.pos + 4 := rfl
  rw [this] at hl ⊢
  simp only [Bool.and_eq_true, decide_eq_true_eq]
  omega
 unfold textD
 simp only [g1]
 rw [hf, form_true]
 simp only [g2, g3, mkS_bts]
 rw [fw_fw, fw_fw]
 unfold textB
 rw [List.length_append, List.length_append, b4_len, bts_len, bz_len]
 all_goals exact Prod.ext rfl (by show fw s _ = fw s _; congr 1; omega)
theorem gd_back {a : Nat} {x : Gd} (h : Ah q s (gdB a x)) (hp : s.pos % 8 = a % 8) (hx : gdOk x) (ht : x.txt.size ≤ 1048576) : gdD q s = (x, fw s (gdB a x).length) := by
 have g1 := take_back h.left (by have := hx.1; omega)
 have k1 := h.right
 rw [Pl.le_length] at k1
 have g2 := take_back k1.left (by have := hx.2.1; omega)
 have k2 := k1.right
 rw [Pl.le_length] at k2
 have g3 := byte_back k2.left (by have := hx.2.2.1; omega)
 rw [show ((x.fill : Nat) : Int).toNat = x.fill by omega] at g3
 have k3 := k2.right
 rw [b1_len] at k3
 have g4 := zeros_back k3.left
 have k4 := k3.right
 rw [bz_len] at k4
 have g5 := text_back k4 (by show (s.pos + 8 + 8 + 1 + 3) % 8 = _; omega) ht
 simp only [gdD, g1, g2, g3, g4, g5]
 simp only [fw_fw]
 unfold gdB
 rw [List.length_append, List.length_append, List.length_append, List.length_append, Pl.le_length, Pl.le_length, b1_len, bz_len]
 obtain ⟨c, d, e, f⟩ := x
 refine Prod.ext rfl ?_
 show fw s _ = fw s _
 congr 1
 omega
theorem many_back {n : Nat} (h : Ah q s (manyB n)) (hn : n ≤ 65535) : manyD q s = (n, fw s 8) := by
 have g1 := half_back h.left (by omega)
 rw [show ((n : Nat) : Int).toNat = n by omega] at g1
 have k1 := h.right
 rw [b2_len] at k1
 have g2 := zeros_back k1
 simp only [manyD, g1, g2]
 simp only [fw_fw]
theorem manyB_len (n : Nat) : (manyB n).length = 8 := by simp [manyB, b2_len, bz_len]
theorem rows_back {γ : Type} {f : Nat → γ → List Nat} {one : D → γ × D} {xs : List γ} {a : Nat} (ho : ∀ (b : Nat) (x : γ) (t : D), x ∈ xs → t.why = 0 → t.pos % 8 = b % 8 → Ah q t (f b x) → one t = (x, fw t (f b x).length)) (hw : s.why = 0) (hp : s.pos % 8 = a % 8) (h : Ah q s (layL f a xs)) : listD one xs.length s = (xs, fw s (layL f a xs).length) := by
 rw [list_back ho hw hp h xs.length (Nat.le_refl _), List.take_length]
 split
 ·rename_i e
  obtain rfl := List.eq_nil_of_length_eq_zero e
  rw [show (layL f a ([] : List γ)).length = 0 from rfl, fw_zero h.rw0]
 ·rfl
theorem layC_any {γ : Type} (f : γ → List Nat) : ∀ (xs : List γ) (a b : Nat), layL (fun _ => f) a xs = layL (fun _ => f) b xs
 | [], _, _ => rfl
 | x :: xs, a, b => by rw [layL, layL, layC_any f xs]
theorem lane_back {l : List (Int × Int)} (h : Ah q s (laneB l)) (hw : s.why = 0) (hn : l.length ≤ 65535) (hl : ∀ x ∈ l, fn x.1 ∧ f4 x.2) : laneD q s = (l, fw s (laneB l).length) := by
 have g1 := many_back h.left hn
 have k1 := h.right
 rw [manyB_len, layC_any stB l 0 ((fw s 8).pos)] at k1
 have g2 := rows_back (s := fw s 8) (one := stD q) (fun b x t hx hw hp ha => st_back ha (hl x hx).1 (hl x hx).2) (show (fw s 8).why = 0 from hw) rfl k1
 unfold laneD
 simp only [g1, g2, fw_fw]
 unfold laneB
 rw [List.length_append, manyB_len, layC_any stB l 0 ((fw s 8).pos)]
theorem plan_back {x : Sc} (h : Ah q s (planB x)) (hw : s.why = 0) (hm : f4 x.maj) (hl : ∀ l ∈ x.lanes, l.length ≤ 65535 ∧ ∀ y ∈ l, fn y.1 ∧ f4 y.2) : planD q x.lanes.length s = (x, fw s (planB x).length) := by
 have g1 := word_back h.left hm
 have k1 := h.right
 rw [b4_len] at k1
 have g2 := zeros_back k1.left
 have k2 := k1.right
 rw [bz_len, layC_any laneB x.lanes 0 (fw (fw s 4) 4).pos] at k2
 have g3 := rows_back (s := fw (fw s 4) 4) (one := laneD q) (fun b y t hy hw hp ha => lane_back ha hw (hl y hy).1 (hl y hy).2) (show (fw (fw s 4) 4).why = 0 from hw) rfl k2
 unfold planD
 simp only [g1, g2, g3]
 simp only [fw_fw]
 unfold planB
 rw [List.length_append, List.length_append, b4_len, bz_len, layC_any laneB x.lanes 0 (fw (fw s 4) 4).pos]
 obtain ⟨a, b⟩ := x
 have h0 := hm.1
 refine Prod.ext ?_ ?_
 ·show Sc.mk ((a.toNat : Nat) : Int) b = Sc.mk a b
  rw [show ((a.toNat : Nat) : Int) = a by dsimp only at h0; omega]
 ·show fw s _ = fw s _
  congr 1
  simp only [fw_fw]
  omega
end
end Dc
end Go.Proofs.YtnifefmfhjfbnaaGreatDoor
