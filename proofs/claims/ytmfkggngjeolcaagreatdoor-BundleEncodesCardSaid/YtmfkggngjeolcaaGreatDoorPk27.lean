import Derived.Test.YtmfkggngjeolcaaGreatDoorPk26
/- Bundle: things that were laid are read back. Plain. Own work. -/
namespace Go.Proofs.YtmfkggngjeolcaaGreatDoor
open Bn Dc
set_option linter.unusedVariables false
set_option linter.unusedSimpArgs false
namespace Dc
def b1 (k : Int) : List Nat := Pl.le 1 (k % 256).toNat
def b2 (k : Int) : List Nat := Pl.le 2 (k % 65536).toNat
def b4 (k : Int) : List Nat := Pl.le 4 (k % 4294967296).toNat
def bf (b : Bool) : List Nat := b1 (if b = true then 1 else 0)
def bz (n : Nat) : List Nat := List.replicate n 0
theorem b1_len (k : Int) : (b1 k).length = 1 := Pl.le_length _ _
theorem b2_len (k : Int) : (b2 k).length = 2 := Pl.le_length _ _
theorem b4_len (k : Int) : (b4 k).length = 4 := Pl.le_length _ _
theorem bz_len (n : Nat) : (bz n).length = n := List.length_replicate
def rangeB (r : Rg) : List Nat := Pl.le 8 r.1 ++ Pl.le 8 r.2
def tenB (x : Tn) : List Nat := b1 x.cpu ++ (bf x.st ++ (b1 x.rule ++ (b1 x.vec ++ (b2 x.to ++ b2 x.root))))
def portB (r : Int) : List Nat := b2 r ++ bz 6
def chB (c : Lk) : List Nat := b2 c.fr ++ (b2 c.to ++ (b1 c.eff ++ (b1 c.vec ++ bz 2)))
def iqB (c : Lk) : List Nat := b2 c.fr ++ (b2 c.to ++ (b1 c.vec ++ (bf c.msk ++ bz 2)))
def stB (x : Int × Int) : List Nat := b2 x.1 ++ (bz 2 ++ b4 x.2)
def f1 (k : Int) : Prop := 0 ≤ k ∧ k ≤ 255
def f2 (k : Int) : Prop := 0 ≤ k ∧ k ≤ 65535
def fn (k : Int) : Prop := -1 ≤ k ∧ k < 65535
def f4 (k : Int) : Prop := 0 ≤ k ∧ k ≤ 4294967295
section
variable {q : Pt} {s : D}
end
end Dc
end Go.Proofs.YtmfkggngjeolcaaGreatDoor
/- Bundle: texts, grounds, lanes, plans that were laid are read back. Plain. Own work. -/
namespace Go.Proofs.YtmfkggngjeolcaaGreatDoor
open Bn Dc
set_option linter.unusedVariables false
set_option linter.unusedSimpArgs false
namespace Dc
def textB (a : Nat) (t : ByteArray) : List Nat := b4 (t.size : Int) ++ (bts t ++ bz (upN (a + 4 + t.size) 8 - (a + 4 + t.size)))
def gdB (a : Nat) (g : Gd) : List Nat := Pl.le 8 g.ad ++ (Pl.le 8 g.sz ++ (b1 (g.fill : Int) ++ (bz 3 ++ textB (a + 20) g.txt)))
def manyB (n : Nat) : List Nat := b2 (n : Int) ++ bz 6
def laneB (l : List (Int × Int)) : List Nat := manyB l.length ++ layL (fun _ => stB) 0 l
def planB (p : Sc) : List Nat := b4 p.maj ++ (bz 4 ++ layL (fun _ => laneB) 0 p.lanes)
section
variable {q : Pt} {s : D}
theorem manyB_len (n : Nat) : (manyB n).length = 8 := by simp [manyB, b2_len, bz_len]
theorem layC_any {γ : Type} (f : γ → List Nat) : ∀ (xs : List γ) (a b : Nat), layL (fun _ => f) a xs = layL (fun _ => f) b xs
  | [], _, _ => rfl
  | x :: xs, a, b => by rw [layL, layL, layC_any f xs]
end
end Dc
end Go.Proofs.YtmfkggngjeolcaaGreatDoor
/- Bundle: what is taken stood there so. Plain. Own work. -/
namespace Go.Proofs.YtmfkggngjeolcaaGreatDoor
open Bn Dc
set_option linter.unusedVariables false
set_option linter.unusedSimpArgs false
namespace Dc
/-- all is well -/
def Ok (s : D) : Prop := s.why = 0 ∧ s.rw = 0
/-- a part's bytes are bytes -/
def Sb (q : Pt) : Prop := ∀ z ∈ q.Z, z < 256
theorem Ah.app {q : Pt} {s : D} {a b : List Nat} (h : Ah q s a) (k : Ah q (fw s a.length) b) : Ah q s (a ++ b) := by
  obtain ⟨u, hu⟩ := h.eq
  obtain ⟨v, hv⟩ := k.eq
  have hk := k.le
  have e : (fw s a.length).pos = s.pos + a.length := rfl
  rw [e] at hk hv
  rw [← List.drop_drop, hu, List.drop_left] at hv
  exact ⟨h.rw0, by rw [List.length_append]; omega, v, by rw [hu, hv, List.append_assoc]⟩
theorem le_num : ∀ (k : Nat) (l : List Nat), (∀ z ∈ l, z < 256) → k ≤ l.length → Pl.le k (Pl.num k l) = l.take k
  | 0, l, _, _ => by simp [Pl.le]
  | k + 1, [], _, h => by simp at h
  | k + 1, x :: l, hz, h => by
    have hx : x < 256 := hz x (by simp)
    have ih := le_num k l (fun z hz' => hz z (by simp [hz'])) (by simpa using h)
    have e : Pl.num (k + 1) (x :: l) = x + 256 * Pl.num k l := by
      show (x :: l).getD 0 0 + 256 * Pl.acc (x :: l) (0 + 1) k = _
      rw [Pl.acc_cons]
      rfl
    rw [e, List.take_succ_cons, ← ih]
    show (x + 256 * Pl.num k l) % 256 :: Pl.le k ((x + 256 * Pl.num k l) / 256) = _
    rw [show (x + 256 * Pl.num k l) % 256 = x by omega, show (x + 256 * Pl.num k l) / 256 = Pl.num k l by omega]
theorem Ok.go {s : D} (h : goD s = true) : Ok s := by
  unfold goD at h
  rw [Bool.and_eq_true] at h
  exact ⟨of_decide_eq_true h.1, of_decide_eq_true h.2⟩
theorem Ok.is {s : D} (h : Ok s) : goD s = true := by
  unfold goD
  rw [decide_eq_true h.1, decide_eq_true h.2]
  rfl
section
variable {q : Pt} {s : D}
theorem take_snd (hq : Sb q) {k : Nat} (h : Ok (takeD q k s).2) : Ok s ∧ ∃ n, takeD q k s = (n, fw s k) ∧ n < 256 ^ k ∧ Ah q s (Pl.le k n) := by
  unfold takeD at h ⊢
  by_cases h1 : s.rw = 0
  · by_cases h2 : s.pos + k ≤ q.Z.length
    · rw [if_pos h1, if_pos h2] at h ⊢
      refine ⟨⟨h.1, h1⟩, Pl.num k (q.Z.drop s.pos), by rw [fw, h1], ?_, h1, by rw [Pl.le_length]; exact h2, q.Z.drop (s.pos + k), ?_⟩
      · exact Pl.acc_lt (fun z hz => hq z (List.mem_of_mem_drop hz)) 0 k
      · rw [le_num k _ (fun z hz => hq z (List.mem_of_mem_drop hz)) (by rw [List.length_drop]; omega), ← List.drop_drop, List.take_append_drop]
    · rw [if_pos h1, if_neg h2] at h
      exact absurd h.2 (show ¬ (10 : Int) = 0 by decide)
  · rw [if_neg h1] at h
    exact absurd h.2 h1
theorem mkS_size (l : List Nat) : (mkS l).size = l.length := by
  unfold mkS
  simp [ByteArray.size]
theorem list_snd {γ : Type} {f : Nat → γ → List Nat} {ok : γ → Prop} {one : D → γ × D} {a : Nat} (ho : ∀ (b : Nat) (t : D), t.pos % 8 = b % 8 → Ok (one t).2 → Ok t ∧ ∃ x, one t = (x, fw t (f b x).length) ∧ ok x ∧ Ah q t (f b x)) : ∀ n, Ok (listD one n s).2 → Ok s ∧ (s.pos % 8 = a % 8 → s.pos ≤ q.Z.length → ∃ xs, listD one n s = (xs, fw s (layL f a xs).length) ∧ xs.length = n ∧ (∀ x ∈ xs, ok x) ∧ Ah q s (layL f a xs))
  | 0, h => by
    have h0 : Ok s := h
    refine ⟨h0, fun hp hle => ⟨[], ?_, rfl, (fun _ h => by cases h), h0.2, ?_, q.Z.drop s.pos, rfl⟩⟩
    · show ([], s) = (([] : List γ), fw s 0)
      rw [fw_zero h0.2]
    · exact hle
  | n + 1, h => by
    rw [listD] at h
    have hg : goD (listD one n s).2 = true := by
      by_cases hg : goD (listD one n s).2 = true
      · exact hg
      · rw [stepL, if_neg hg] at h
        exact h.is
    rw [stepL, if_pos hg] at h
    obtain ⟨h0, hr⟩ := list_snd (a := a) ho n (Ok.go hg)
    refine ⟨h0, fun hp hle => ?_⟩
    obtain ⟨xs, e1, hl, hx, ha⟩ := hr hp hle
    rw [e1] at h
    obtain ⟨_, x, e2, ox, ax⟩ := ho (a + (layL f a xs).length) _ (by show (s.pos + _) % 8 = _; omega) h
    refine ⟨xs ++ [x], ?_, by rw [List.length_append, hl]; rfl, fun y hy => ?_, ?_⟩
    · rw [listD, stepL, if_pos hg, e1]
      dsimp only
      rw [e2, layL_snoc, List.length_append, fw_fw]
    · rcases List.mem_append.1 hy with h | h
      · exact hx y h
      · rw [List.mem_singleton.1 h]; exact ox
    · rw [layL_snoc]
      exact ha.app ax
theorem Ah.pos {l : List Nat} (h : Ah q s l) : (fw s l.length).pos ≤ q.Z.length := h.le
end
end Dc
end Go.Proofs.YtmfkggngjeolcaaGreatDoor
