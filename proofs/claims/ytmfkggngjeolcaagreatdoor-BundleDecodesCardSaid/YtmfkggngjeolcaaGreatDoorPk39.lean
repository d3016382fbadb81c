import Derived.Test.YtmfkggngjeolcaaGreatDoorPk38
import Derived.Test.YtmfkggngjeolcaaGreatDoorPk37
set_option linter.unusedSimpArgs false
set_option linter.unusedVariables false
set_option maxHeartbeats 16000000
set_option maxRecDepth 100000
namespace Go.Proofs.YtmfkggngjeolcaaGreatDoor
open Bn Dc
namespace Dc
theorem beg_mod (k a : Nat) : begN k a % 8 = 0 ∧ (k = 8 → begN k a % 4096 = 0) := by
 unfold begN upN
 by_cases e : k = 8
 ·rw [if_pos e]
  split <;> omega
 ·rw [if_neg e]
  split <;> omega
theorem st_next (I : Im) (k : Nat) : (stN I (k + 1)).1 = (stN I k).1 ++ (bz (fstN I k - (stN I k).1.length) ++ secB I k) ∧ ((stN I (k + 1)).2 = 0 ↔ (stN I k).2 = 0 ∧ fitK I k) := by
 have h8 : (zerosS (begN k (stN I k).1.length - (stN I k).1.length) (stN I k)).1.length % 8 = 0 := by
  rw [zeros_len];have := beg_le k (stN I k).1.length;have := (beg_mod k (stN I k).1.length).1;omega
 obtain ⟨h1, h2⟩ := sec_lay I k _ h8;refine ⟨?_, ?_⟩
 ·rw [stN, h1, zeros1, List.append_assoc]
  rfl
 ·rw [stN, h2, zeros2]
theorem seal_rw {E : Nat → En} {bs : List Nat} {s : D} : ∀ k, (sealS E bs k s).rw = s.rw ∧ (sealS E bs k s).pos = s.pos := by
 have ka : ∀ (b : Bool) (no sec ad : Int) (t : D), (askD b no sec ad t).rw = t.rw ∧ (askD b no sec ad t).pos = t.pos := fun b no sec ad t => by
  unfold askD
  split <;> exact ⟨rfl, rfl⟩
 have kz : ∀ (k e0 : Nat) (t : D) (j : Nat), (zsS bs k e0 j t).rw = t.rw ∧ (zsS bs k e0 j t).pos = t.pos := fun k e0 t j => by
  induction j with
  | zero => exact ⟨rfl, rfl⟩
  | succ j ih => rw [zsS]; exact ⟨(ka _ _ _ _ _).1.trans ih.1, (ka _ _ _ _ _).2.trans ih.2⟩
 intro k
 induction k with
 | zero => exact ⟨rfl, rfl⟩
 | succ k ih => rw [sealS]; exact ⟨((ka _ _ _ _ _).1.trans (kz _ _ _ _).1).trans ih.1, ((ka _ _ _ _ _).2.trans (kz _ _ _ _).2).trans ih.2⟩
theorem ask_rw (b : Bool) (no sec ad : Int) (t : D) : (askD b no sec ad t).rw = t.rw ∧ (askD b no sec ad t).pos = t.pos := by
 unfold askD
 split <;> exact ⟨rfl, rfl⟩
theorem dir_rw {E : Nat → En} {N : Nat} {s : D} : ∀ k, (dirS E N k s).rw = s.rw ∧ (dirS E N k s).pos = s.pos
 | 0 => ⟨rfl, rfl⟩
 | k + 1 => by rw [dirS]; exact ⟨(ask_rw _ _ _ _ _).1.trans (dir_rw k).1, (ask_rw _ _ _ _ _).2.trans (dir_rw k).2⟩
theorem asks_rw {bs : List Nat} {x : Hd} {s : D} : (asksD bs x s).rw = s.rw ∧ (asksD bs x s).pos = s.pos := by
 unfold asksD;refine ⟨?_, ?_⟩
 ·rw [(ask_rw _ _ _ _ _).1, (ask_rw _ _ _ _ _).1, (ask_rw _ _ _ _ _).1, (ask_rw _ _ _ _ _).1, (ask_rw _ _ _ _ _).1, (ask_rw _ _ _ _ _).1, (ask_rw _ _ _ _ _).1, (ask_rw _ _ _ _ _).1, (ask_rw _ _ _ _ _).1]
 ·rw [(ask_rw _ _ _ _ _).2, (ask_rw _ _ _ _ _).2, (ask_rw _ _ _ _ _).2, (ask_rw _ _ _ _ _).2, (ask_rw _ _ _ _ _).2, (ask_rw _ _ _ _ _).2, (ask_rw _ _ _ _ _).2, (ask_rw _ _ _ _ _).2, (ask_rw _ _ _ _ _).2]
theorem head_rw (bs : List Nat) : (headS bs).rw = (hd0 bs).s.rw ∧ (headS bs).pos = (hd0 bs).s.pos := ⟨((seal_rw 8).1.trans (dir_rw 8).1).trans asks_rw.1, ((seal_rw 8).2.trans (dir_rw 8).2).trans asks_rw.2⟩
def enB (x : En) : List Nat := Pl.le 2 x.a ++ (Pl.le 2 x.b ++ (Pl.le 4 x.f ++ (Pl.le 4 x.l ++ Pl.le 4 x.c)))
theorem enB_len (x : En) : (enB x).length = 16 := by simp [enB, Pl.le_length]
theorem ent_snd {q : Pt} {s : D} (hq : Sb q) (h : Ok (entD q s).2) : Ok s ∧ (entD q s).2 = fw s 16 ∧ Ah q s (enB (entD q s).1) := by
 obtain ⟨g4, v5, e5, o5, a5⟩ := take_snd hq (show Ok (takeD q 4 (takeD q 4 (takeD q 4 (takeD q 2 (takeD q 2 s).2).2).2).2).2 from h);obtain ⟨g3, v4, e4, o4, a4⟩ := take_snd hq g4;obtain ⟨g2, v3, e3, o3, a3⟩ := take_snd hq g3;obtain ⟨g1, v2, e2, o2, a2⟩ := take_snd hq g2;obtain ⟨g0, v1, e1, o1, a1⟩ := take_snd hq g1;rw [e1] at e2 a2 e3 a3 e4 a4 e5 a5;dsimp only at e2 a2 e3 a3 e4 a4 e5 a5;rw [e2] at e3 a3 e4 a4 e5 a5;dsimp only at e3 a3 e4 a4 e5 a5;rw [e3] at e4 a4 e5 a5;dsimp only at e4 a4 e5 a5;rw [e4] at e5 a5;dsimp only at e5 a5;have hE : entD q s = (⟨v1, v2, v3, v4, v5⟩, fw s 16) := by
  simp only [entD, e1, e2, e3, e4, e5];simp only [fw_fw]
 rw [hE];exact ⟨g0, rfl, a1.app (by rw [Pl.le_length]; exact a2.app (by rw [Pl.le_length]; exact a3.app (by rw [Pl.le_length]; exact a4.app (by rw [Pl.le_length]; exact a5))))⟩
def ensB (E : Nat → En) : Nat → List Nat
 | 0 => []
 | k + 1 => ensB E k ++ enB (E (k + 1))
theorem ensB_len (E : Nat → En) : ∀ k, (ensB E k).length = 16 * k
 | 0 => rfl
 | k + 1 => by rw [ensB, List.length_append, ensB_len E k, enB_len]; omega
theorem ents_snd {q : Pt} {s : D} (hq : Sb q) (hle : s.pos ≤ q.Z.length) : ∀ k, Ok (entS q s k) → Ok s ∧ entS q s k = fw s (16 * k) ∧ Ah q s (ensB (entE q s) k)
 | 0, h => by
  have h0 : Ok s := h;exact ⟨h0, (fw_zero h0.2).symm, h0.2, hle, q.Z.drop s.pos, rfl⟩
 | k + 1, h => by
  obtain ⟨h1, h2, h3⟩ := ent_snd hq (show Ok (entD q (entS q s k)).2 from h);obtain ⟨g1, g2, g3⟩ := ents_snd hq hle k h1;refine ⟨g1, ?_, ?_⟩
  ·show (entD q (entS q s k)).2 = _
   rw [h2, g2, fw_fw, Nat.mul_succ]
  ·rw [ensB];refine g3.app ?_;rw [ensB_len, ← g2];exact h3
def hxB (x : Hd) (E : Nat → En) : List Nat := x.T ++ (Pl.le 2 x.n1 ++ (Pl.le 2 x.n2 ++ (Pl.le 4 x.cnt ++ (Pl.le 8 x.base ++ (ensB E 8 ++ (Pl.le 4 x.sm ++ Pl.le 4 x.zr))))))
theorem hd_snd {q : Pt} {s : D} (hq : Sb q) (h : Ok (hdD q s).s) : Ok s ∧ (hdD q s).x.T.length = 8 ∧ (hdD q s).s = fw s 160 ∧ Ah q s (hxB (hdD q s).x (hdD q s).E) ∧ (hdD q s).x.base < 256 ^ 8 := by
 unfold hdD at h;dsimp only at h;obtain ⟨g7, v8, e8, o8, a8⟩ := take_snd hq h;obtain ⟨g6, v7, e7, o7, a7⟩ := take_snd hq g7;have kE : ∀ k t, Ok (entS q t k) → Ok t := fun k => by
  induction k with
  | zero => intro t h; exact h
  | succ k ih => intro t h; exact ih t (ent_snd hq (show Ok (entD q (entS q t k)).2 from h)).1
 have g5 := kE _ _ g6;obtain ⟨g4, v5, e5, o5, a5⟩ := take_snd hq g5;obtain ⟨g3, v4, e4, o4, a4⟩ := take_snd hq g4;obtain ⟨g2, v3, e3, o3, a3⟩ := take_snd hq g3;obtain ⟨g1, v2, e2, o2, a2⟩ := take_snd hq g2;obtain ⟨g0, l, e1, o1, a1, _⟩ := bytes_snd hq g1;rw [e1] at e2 a2 e3 a3 e4 a4 e5 a5 e7 a7 e8 a8 g6;dsimp only at e2 a2 e3 a3 e4 a4 e5 a5 e7 a7 e8 a8 g6;rw [e2] at e3 a3 e4 a4 e5 a5 e7 a7 e8 a8 g6;dsimp only at e3 a3 e4 a4 e5 a5 e7 a7 e8 a8 g6;rw [e3] at e4 a4 e5 a5 e7 a7 e8 a8 g6;dsimp only at e4 a4 e5 a5 e7 a7 e8 a8 g6;rw [e4] at e5 a5 e7 a7 e8 a8 g6;dsimp only at e5 a5 e7 a7 e8 a8 g6;rw [e5] at e7 a7 e8 a8 g6;dsimp only at e7 a7 e8 a8 g6;obtain ⟨_, e6, a6⟩ := ents_snd hq (by have := a5.pos; rw [Pl.le_length] at this; exact this) 8 g6;rw [e6] at e7 a7 e8 a8;rw [e7] at e8 a8;dsimp only at e8 a8;have hE : hdD q s = ⟨⟨l, v2, v3, v4, v5, v7, v8⟩, entE q (fw (fw (fw (fw (fw s 8) 2) 2) 4) 8), fw s 160⟩ := by
  simp only [hdD, e1, e2, e3, e4, e5, e6, e7, e8];simp only [fw_fw]
 rw [hE];refine ⟨g0, o1, rfl, ?_, o5⟩
 show Ah q s (l ++ (Pl.le 2 v2 ++ (Pl.le 2 v3 ++ (Pl.le 4 v4 ++ (Pl.le 8 v5 ++ (ensB (entE q (fw (fw (fw (fw (fw s 8) 2) 2) 4) 8)) 8 ++ (Pl.le 4 v7 ++ Pl.le 4 v8)))))))
 exact a1.app (by rw [o1]; exact a2.app (by rw [Pl.le_length]; exact a3.app (by rw [Pl.le_length]; exact a4.app (by rw [Pl.le_length]; exact a5.app (by rw [Pl.le_length]; exact a6.app (by rw [ensB_len]; exact a7.app (by rw [Pl.le_length]; exact a8)))))))
theorem sec_keep {k j : Nat} (h1 : 1 ≤ k) (h8 : k ≤ 8) (hj : j < k) (q : Pt) (J : Im) (s : D) : secB (secD k q J s).1 j = secB J j ∧ (fitK (secD k q J s).1 j ↔ fitK J j) ∧ (kindK (secD k q J s).1 j ↔ kindK J j) := by
 rcases (by omega : k = 1 ∨ k = 2 ∨ k = 3 ∨ k = 4 ∨ k = 5 ∨ k = 6 ∨ k = 7 ∨ k = 8) with rfl | rfl | rfl | rfl | rfl | rfl | rfl | rfl
 ·obtain rfl : j = 0 := by omega
  exact ⟨rfl, Iff.rfl, Iff.rfl⟩
 ·rcases (by omega : j = 0 ∨ j = 1) with rfl | rfl <;> exact ⟨rfl, Iff.rfl, Iff.rfl⟩
 ·rcases (by omega : j = 0 ∨ j = 1 ∨ j = 2) with rfl | rfl | rfl <;> exact ⟨rfl, Iff.rfl, Iff.rfl⟩
 ·rcases (by omega : j = 0 ∨ j = 1 ∨ j = 2 ∨ j = 3) with rfl | rfl | rfl | rfl <;> exact ⟨rfl, Iff.rfl, Iff.rfl⟩
 ·rcases (by omega : j = 0 ∨ j = 1 ∨ j = 2 ∨ j = 3 ∨ j = 4) with rfl | rfl | rfl | rfl | rfl <;> exact ⟨rfl, Iff.rfl, Iff.rfl⟩
 ·rcases (by omega : j = 0 ∨ j = 1 ∨ j = 2 ∨ j = 3 ∨ j = 4 ∨ j = 5) with rfl | rfl | rfl | rfl | rfl | rfl <;> exact ⟨rfl, Iff.rfl, Iff.rfl⟩
 ·rcases (by omega : j = 0 ∨ j = 1 ∨ j = 2 ∨ j = 3 ∨ j = 4 ∨ j = 5 ∨ j = 6) with rfl | rfl | rfl | rfl | rfl | rfl | rfl <;> exact ⟨rfl, Iff.rfl, Iff.rfl⟩
 ·rcases (by omega : j = 0 ∨ j = 1 ∨ j = 2 ∨ j = 3 ∨ j = 4 ∨ j = 5 ∨ j = 6 ∨ j = 7) with rfl | rfl | rfl | rfl | rfl | rfl | rfl | rfl <;> exact ⟨rfl, Iff.rfl, Iff.rfl⟩
theorem sec_base (k : Nat) (q : Pt) (J : Im) (s : D) : (secD k q J s).1.base = J.base := by
 unfold secD
 split <;> rfl
theorem pr_down {bs : List Nat} {k : Nat} (h : (prA bs k).why = 0) : ∀ j, j ≤ k → (prA bs j).why = 0 := fun j hj => by
 by_cases e : (prA bs j).why = 0
 ·exact e
 ·rw [show prA bs k = prA bs j from partsA_stop e k hj] at h;exact absurd h e
theorem q_small {bs : List Nat} (hb : ∀ z ∈ bs, z < 256) (E : Nat → En) (k : Nat) : Sb (qOf E bs k) := fun z hz => hb z (List.mem_of_mem_drop (List.mem_of_mem_take hz))
theorem qOf_len {E : Nat → En} {bs : List Nat} {k : Nat} (h : (E k).f + (E k).l ≤ bs.length) : (qOf E bs k).Z.length = (E k).l := by
 unfold qOf;dsimp only;rw [List.length_take, List.length_drop];omega
theorem qOf_Z (E : Nat → En) (bs : List Nat) (k : Nat) : (qOf E bs k).Z = (bs.drop (E k).f).take (E k).l := rfl
theorem pr_snd {bs : List Nat} (hb : ∀ z ∈ bs, z < 256) {k : Nat} (h8 : k ≤ 8) (h : (prA bs k).why = 0) : (prA bs k).J.base = (hd0 bs).x.base ∧ ∀ j, 1 ≤ j → j ≤ k → fitK (prA bs k).J j ∧ kindK (prA bs k).J j ∧ (qOf (hd0 bs).E bs j).Z = secB (prA bs k).J j := by
 induction k with
 | zero => exact ⟨rfl, fun j h1 h2 => by omega⟩
 | succ k ih =>
  have hk := pr_down h k (by omega);obtain ⟨i1, i2⟩ := ih (by omega) hk;have hP := pr_next hk;obtain ⟨hN, hok⟩ := head_ok (pr_zero hk);rw [hP] at h;obtain ⟨e1, e2, e3⟩ := end_zero h;rw [hP];dsimp only;refine ⟨(sec_base _ _ _ _).trans i1, fun j h1 h2 => ?_⟩
  by_cases e : j = k + 1
  ·subst e;refine sec_snd (q_small hb _ _) (by omega) h8 rfl ⟨e1, e2⟩ e3 (fun e => ?_);obtain ⟨o1, o2, o3, o4, o5⟩ := ok_end (k := k + 1) (by omega) (by omega) (hok (k + 1) (by omega) (by omega));rw [qOf_len (by omega)];have h9 := (asks_zero (dirS_ok 8 (seal_zero 8 (end_zero (pr_zero hk)).1)).1).2.2.2.2.2.2.2.1;have hm := (beg_mod (k + 1) (endN (hd0 bs).E bs.length (k + 1 - 1))).2 e;rw [← o3] at hm;have he : endN (hd0 bs).E bs.length (k + 1) = bs.length := by rw [endN, if_pos (by omega)]
   omega
  ·obtain ⟨a, b, c⟩ := i2 j h1 (by omega);obtain ⟨k1, k2, k3⟩ := sec_keep (k := k + 1) (j := j) (by omega) h8 (by omega) (qOf (hd0 bs).E bs (k + 1)) (prA bs k).J (startD (prA bs k));exact ⟨k2.2 a, k3.2 b, by rw [k1]; exact c⟩
theorem seal_each {E : Nat → En} {bs : List Nat} {s : D} : ∀ k, (sealS E bs k s).why = 0 → ∀ j, 1 ≤ j → j ≤ k → Pl.crc ((bs.drop (E j).f).take (E j).l) = (E j).c ∧ ∀ i, i < (E j).f - endN E bs.length (j - 1) → bs.getD (endN E bs.length (j - 1) + i) 0 = 0
 | 0, _, j, h1, h2 => by omega
 | k + 1, h, j, h1, h2 => by
  rw [sealS] at h;obtain ⟨a, b⟩ := ask_zero' (by decide) h;obtain ⟨c, d⟩ := zs_zero _ b
  by_cases e : j = k + 1
  ·subst e;exact ⟨of_decide_eq_true a, d⟩
  ·exact seal_each k c j h1 (by omega)
theorem zeros_of {bs : List Nat} {e n : Nat} (hl : e + n ≤ bs.length) (h : ∀ i, i < n → bs.getD (e + i) 0 = 0) : (bs.drop e).take n = bz n := by
 apply List.ext_getElem
 ·rw [List.length_take, List.length_drop, bz_len]; omega
 ·intro i h1 h2;rw [bz_len] at h2;rw [List.getElem_take, List.getElem_drop];have := h i h2;rw [List.getD_eq_getElem?_getD, List.getElem?_eq_getElem (by omega)] at this;simp only [Option.getD_some] at this;rw [this];simp [bz]
theorem take_next (bs : List Nat) {a b c : Nat} (h1 : a ≤ b) (h2 : b ≤ c) : (bs.drop a).take (c - a) = (bs.drop a).take (b - a) ++ (bs.drop b).take (c - b) := by
 rw [show c - a = (b - a) + (c - b) by omega, List.take_add, List.drop_drop, show a + (b - a) = b by omega]
theorem stp_snd {bs : List Nat} (hb : ∀ z ∈ bs, z < 256) (h : (prA bs 8).why = 0) (h160 : 160 ≤ bs.length) : ∀ k, k ≤ 8 → (stN (prA bs 8).J (k + 1)).1 = bz 160 ++ (bs.drop 160).take (endN (hd0 bs).E bs.length k - 160) ∧ (stN (prA bs 8).J (k + 1)).2 = 0 ∧ 160 ≤ endN (hd0 bs).E bs.length k ∧ endN (hd0 bs).E bs.length k ≤ bs.length ∧ (stN (prA bs 8).J (k + 1)).1.length = endN (hd0 bs).E bs.length k := by
 obtain ⟨hN, hok⟩ := head_ok (pr_zero h);obtain ⟨hB, hS⟩ := pr_snd hb (Nat.le_refl 8) h;have hsl := (end_zero (pr_zero h)).1;have ha := asks_zero (dirS_ok 8 (seal_zero 8 hsl)).1;intro k
 induction k with
 | zero =>
  intro _;obtain ⟨s1, s2⟩ := st_next (prA bs 8).J 0;have e0 : (stN (prA bs 8).J 1).1 = bz 160 := s1;refine ⟨?_, ?_, Nat.le_refl _, h160, ?_⟩
  ·rw [e0]
   show bz 160 = bz 160 ++ (bs.drop 160).take (160 - 160)
   simp
  ·rw [s2];exact ⟨rfl, by show (prA bs 8).J.base % 4096 = 0; rw [hB]; exact ha.2.2.2.2.2.2.2.2⟩
  ·rw [e0, bz_len]
   rfl
 | succ k ih =>
  intro hk;obtain ⟨i1, i2, i3, i4, i5⟩ := ih (by omega);obtain ⟨s1, s2⟩ := st_next (prA bs 8).J (k + 1);obtain ⟨f1, f2, f3⟩ := hS (k + 1) (by omega) hk;obtain ⟨o1, o2, o3, o4, o5⟩ := ok_end (k := k + 1) (by omega) hk (hok (k + 1) (by omega) hk);obtain ⟨c1, c2⟩ := seal_each 8 hsl (k + 1) (by omega) hk;rw [Nat.add_sub_cancel] at o3 c2;have hf : fstN (prA bs 8).J (k + 1) = ((hd0 bs).E (k + 1)).f := by rw [fstN, i5, o3]
  have hbl := beg_le (k + 1) (endN (hd0 bs).E bs.length k);rw [← o3] at hbl;have hz := zeros_of (bs := bs) (e := endN (hd0 bs).E bs.length k) (n := ((hd0 bs).E (k + 1)).f - endN (hd0 bs).E bs.length k) (by omega) c2;have hq : (bs.drop ((hd0 bs).E (k + 1)).f).take ((hd0 bs).E (k + 1)).l = secB (prA bs 8).J (k + 1) := (qOf_Z _ _ _).symm.trans f3;have hA : (stN (prA bs 8).J (k + 1 + 1)).1 = bz 160 ++ (bs.drop 160).take (endN (hd0 bs).E bs.length (k + 1) - 160) := by
   rw [s1, hf, i5, ← hz, ← hq, i1, List.append_assoc];refine congrArg (fun l => bz 160 ++ l) ?_;rw [take_next bs (a := 160) (b := endN (hd0 bs).E bs.length k) (c := endN (hd0 bs).E bs.length (k + 1)) i3 (by omega), take_next bs (a := endN (hd0 bs).E bs.length k) (b := ((hd0 bs).E (k + 1)).f) (c := endN (hd0 bs).E bs.length (k + 1)) hbl.2 (by omega)];rw [show endN (hd0 bs).E bs.length (k + 1) - ((hd0 bs).E (k + 1)).f = ((hd0 bs).E (k + 1)).l by omega]
  refine ⟨hA, s2.2 ⟨i2, f1⟩, by omega, o5, ?_⟩;rw [hA, List.length_append, bz_len, List.length_take, List.length_drop];omega
theorem forth_all {bs : List Nat} (hb : ∀ z ∈ bs, z < 256) (h : (decA bs).why = 0) : ImK (decA bs).J ∧ (sizeF (decA bs).J).2 = 0 ∧ encF (decA bs).J = bs ∧ bs.length ≤ 4194304 := by
 have h160 : 160 ≤ bs.length := by
  by_cases e : bs.length < 160
  ·rw [decA, if_pos e] at h;exact absurd h (show ¬ (10 : Int) = 0 by decide)
  ·omega
 rw [dec_all h160] at h ⊢;obtain ⟨hN, hok⟩ := head_ok (pr_zero h);obtain ⟨hB, hS⟩ := pr_snd hb (Nat.le_refl 8) h;obtain ⟨hsl, hr1, hr2⟩ := end_zero (pr_zero h);have ha := asks_zero (dirS_ok 8 (seal_zero 8 hsl)).1;obtain ⟨k1, k2, k3, k4, k5⟩ := stp_snd hb h h160 8 (Nat.le_refl 8);have he8 : endN (hd0 bs).E bs.length 8 = bs.length := rfl;rw [he8] at k1 k5;have hzs : (stN (prA bs 8).J 9).1.drop 160 = bs.drop 160 := by
  rw [k1, List.drop_left' (bz_len 160), List.take_of_length_le (by rw [List.length_drop]; exact Nat.le_refl _)]
 have hq : Sb (hq bs) := fun z hz => hb z (List.mem_of_mem_drop (List.mem_of_mem_take hz));have hZl : (Dc.hq bs).Z.length = 160 := by
  show ((bs.drop 0).take 160).length = 160
  rw [List.length_take, List.length_drop]; omega
 have hOk : Ok (hd0 bs).s := ⟨ha.1, (head_rw bs).1.symm.trans hr1⟩
 obtain ⟨_, hT, hs, hA, hbase⟩ := hd_snd hq hOk;have hlen : (hxB (hd0 bs).x (hd0 bs).E).length = 160 := by
  simp only [hxB, List.length_append, Pl.le_length, ensB_len];rw [show (hd0 bs).x.T.length = 8 from hT]
 have hW : (Dc.hq bs).Z = hxB (hd0 bs).x (hd0 bs).E := hA.whole rfl (by rw [hZl]; show 0 + (hxB (hd0 bs).x (hd0 bs).E).length = 160; rw [hlen]);have hW2 : bs.take 160 = hxB (hd0 bs).x (hd0 bs).E := hW;have hK : ImK (prA bs 8).J := ⟨by rw [hB]; have : (hd0 bs).x.base < 256 ^ 8 := hbase; omega, (hS 1 (by decide) (by decide)).2.1.1, (hS 1 (by decide) (by decide)).2.1.2, (hS 4 (by decide) (by decide)).2.1, (hS 8 (by decide) (by decide)).2.1⟩
 have hsz : sizeF (prA bs 8).J = ((((stN (prA bs 8).J 9).1.length / 4096 : Nat) : Int), 0) := by
  rw [sizeF, if_neg (fun e => e k2), if_neg (by rw [k5]; omega)]
 refine ⟨hK, by rw [hsz], ?_, hN⟩;have hent : ∀ j, 1 ≤ j → j ≤ 8 → enB ((hd0 bs).E j) = entB j (fstN (prA bs 8).J j) (lenN (prA bs 8).J j) (Pl.crc (secZ (prA bs 8).J (stN (prA bs 8).J 9).1 j)) := fun j h1 h2 => by
  obtain ⟨i, rfl⟩ : ∃ i, j = i + 1 := ⟨j - 1, by omega⟩
  obtain ⟨m1, m2, m3, m4, m5⟩ := stp_snd hb h h160 i (by omega);obtain ⟨n1, n2, n3, n4, n5⟩ := stp_snd hb h h160 (i + 1) h2;obtain ⟨o1, o2, o3, o4, o5⟩ := ok_end (k := i + 1) (by omega) h2 (hok (i + 1) (by omega) h2);obtain ⟨c1, c2⟩ := seal_each 8 hsl (i + 1) (by omega) h2;rw [Nat.add_sub_cancel] at o3;have hf : fstN (prA bs 8).J (i + 1) = ((hd0 bs).E (i + 1)).f := by rw [fstN, m5, o3]
  have hl : lenN (prA bs 8).J (i + 1) = ((hd0 bs).E (i + 1)).l := by rw [lenN, n5, hf]; omega
  have hbl := beg_le (i + 1) (endN (hd0 bs).E bs.length i);rw [← o3] at hbl;have hz : secZ (prA bs 8).J (stN (prA bs 8).J 9).1 (i + 1) = (bs.drop ((hd0 bs).E (i + 1)).f).take ((hd0 bs).E (i + 1)).l := by
   rw [secZ, hf, hl, show ((hd0 bs).E (i + 1)).f = 160 + (((hd0 bs).E (i + 1)).f - 160) by omega, ← List.drop_drop, hzs, List.drop_drop]
  rw [hf, hl, hz, c1, enB, entB, o1, o2];simp only [List.append_assoc]
 have hP : ∀ i, i ≤ 8 → hdP (prA bs 8).J (stN (prA bs 8).J 9).1 i = magB ++ Pl.le 2 1 ++ Pl.le 2 8 ++ Pl.le 4 ((stN (prA bs 8).J 9).1.length / 4096) ++ Pl.le 8 (prA bs 8).J.base ++ ensB (hd0 bs).E i := fun i => by
  induction i with
  | zero => intro _; rw [hdP, ensB, List.append_nil]
  | succ i ih => intro hi; rw [hdP, ih (by omega), ensB, hent (i + 1) (by omega) hi, List.append_assoc]
 have hT9 : (hd0 bs).x.T = magB := ha.2.1;have h152 : bs.take 152 = hdP (prA bs 8).J (stN (prA bs 8).J 9).1 8 := by
  have e1 : bs.take 152 = (bs.take 160).take 152 := by rw [List.take_take]; rfl
  rw [e1, hW2, hP 8 (Nat.le_refl 8)];have e2 : hxB (hd0 bs).x (hd0 bs).E = (magB ++ Pl.le 2 1 ++ Pl.le 2 8 ++ Pl.le 4 ((stN (prA bs 8).J 9).1.length / 4096) ++ Pl.le 8 (prA bs 8).J.base ++ ensB (hd0 bs).E 8) ++ (Pl.le 4 (hd0 bs).x.sm ++ Pl.le 4 (hd0 bs).x.zr) := by
   unfold hxB;rw [hT9, ha.2.2.1, ha.2.2.2.1, k5, hB, show bs.length / 4096 = (hd0 bs).x.cnt by have := ha.2.2.2.2.2.2.2.1; omega];simp only [List.append_assoc]
  rw [e2, List.take_left'];simp only [List.length_append, Pl.le_length, ensB_len]
  rfl
 have hH : hdF (prA bs 8).J (stN (prA bs 8).J 9).1 = bs.take 160 := by
  rw [hdF, ← h152, hW2, ← ha.2.2.2.2.1, h152, hP 8 (Nat.le_refl 8)];unfold hxB;rw [hT9, ha.2.2.1, ha.2.2.2.1, k5, hB, ha.2.2.2.2.2.1, show bs.length / 4096 = (hd0 bs).x.cnt by have := ha.2.2.2.2.2.2.2.1; omega];simp only [List.append_assoc]
 rw [encF, hH, hzs, List.take_append_drop]
end Dc
end Go.Proofs.YtmfkggngjeolcaaGreatDoor
namespace Go.Proofs.YtmfkggngjeolcaaGreatDoor
open Go.RowKit Bn Dc
theorem OwnG.tbG {Z : Nat} {w : World} {v : Value} {fs : List (Nat → Nat)} (h : OwnG 80 512 tbE w Z v fs) : TbG w v fs := by
 obtain ⟨ao, cap, hv, h1, h2, h3⟩ := h.rowG tb_ok;exact ⟨ao, cap, hv, h1, h2, fun i hi => by
  obtain ⟨b, o, ha, _, hc⟩ := h3 i hi;exact ⟨b, o, ha, fun p hp => by rw [hc p hp, tbE, Array.getElem?_toList]; exact tabV_get _ hp⟩⟩
theorem LaO.lnG {Z : Nat} {w : World} {v : SlV} {ls : List (List (Int × Int))} (h : LaO Z w v ls) : LnG w (slE1 v) ls := by
 obtain ⟨us, ho, ht⟩ := h;obtain ⟨ao, cap, hv, h1, h2, h3⟩ := ho.rowG sl_ok;have hl := ht.len;refine ⟨ao, cap, by rw [hv, hl], by omega, h2, fun j hj => ?_⟩;obtain ⟨b, o, ha, _, hc⟩ := h3 j (by omega);refine ⟨b, o, slE1 us[j], ha, ?_, (ht.get j (by omega) hj).rowG st_ok⟩;have := hc 0 (by decide)
 simpa [slE] using this
theorem PlO.plG {Z : Nat} {w : World} {v : Value} {ps : List Sc} (h : PlO Z w v ps) : PlG w v ps := by
 obtain ⟨us, ho, ht⟩ := h;obtain ⟨ao, cap, hv, h1, h2, h3⟩ := ho.rowG sc_ok;have hl := ht.len;refine ⟨ao, cap, by rw [hv, hl], by omega, h2, fun i hi => ?_⟩;obtain ⟨b, o, ha, _, hc⟩ := h3 i (by omega);obtain ⟨g1, g2⟩ := ht.get i (by omega) hi;refine ⟨b, o, slE1 us[i].2, ha, ?_, ?_, g2.lnG⟩
 ·have := hc 0 (by decide);simp [scE] at this
  rw [← g1];exact this
 ·have := hc 1 (by decide);simp [scE] at this
  exact this
structure ImJ (J : Im) : Prop where
 k : ImK J
 subs : ∀ x ∈ J.subs, tnOk x
 ports : ∀ x ∈ J.ports, I64R x
 chs : ∀ x ∈ J.chs, lkOk x
 irqs : ∀ x ∈ J.irqs, lkOk x
 plans : ∀ x ∈ J.plans, scOk x
 master : I64R J.master
 start : I64R J.start
theorem i64_1 {k : Int} (h : f1 k) : I64R k := by unfold f1 at h; unfold I64R; omega
theorem i64_2 {k : Int} (h : f2 k) : I64R k := by unfold f2 at h; unfold I64R; omega
theorem i64_4 {k : Int} (h : f4 k) : I64R k := by unfold f4 at h; unfold I64R; omega
theorem i64_n {k : Int} (h : fn k) : I64R k := by unfold fn at h; unfold I64R; omega
theorem imJ_of {J : Im} (hk : ImK J) (h : ∀ j, 1 ≤ j → j ≤ 8 → fitK J j) : ImJ J where
 k := hk
 subs := fun x hx => by
  obtain ⟨a, b, c, d, e⟩ := (h 2 (by decide) (by decide)).2 x hx;exact ⟨i64_1 a, i64_n e, i64_1 b, i64_n d, i64_1 c⟩
 ports := fun x hx => i64_n ((h 3 (by decide) (by decide)).2.2 x hx)
 chs := fun x hx => by
  obtain ⟨a, b, c, d, e⟩ := (h 5 (by decide) (by decide)).2 x hx;exact ⟨i64_n a, i64_n b, i64_1 c, i64_1 d⟩
 irqs := fun x hx => by
  obtain ⟨a, b, c, d⟩ := (h 6 (by decide) (by decide)).2 x hx;exact ⟨i64_n a, i64_n b, by rw [c]; unfold I64R; omega, i64_1 d⟩
 plans := fun x hx => by
  obtain ⟨a, b, c⟩ := (h 7 (by decide) (by decide)).2.2.2.2 x hx;exact ⟨i64_4 b, fun l hl y hy => ⟨i64_n ((c l hl).2 y hy).1, i64_4 ((c l hl).2 y hy).2⟩⟩
 master := i64_n (h 7 (by decide) (by decide)).2.2.1
 start := i64_2 (h 7 (by decide) (by decide)).2.2.2.1
theorem dec_imJ {bs : List Nat} (hb : ∀ z ∈ bs, z < 256) (h : (decA bs).why = 0) : ImJ (decA bs).J := by
 have hk := (forth_all hb h).1;have h160 : 160 ≤ bs.length := by
  by_cases e : bs.length < 160
  ·rw [decA, if_pos e] at h;exact absurd h (show ¬ (10 : Int) = 0 by decide)
  ·omega
 rw [dec_all h160] at h hk ⊢;exact imJ_of hk (fun j h1 h2 => ((pr_snd hb (Nat.le_refl 8) h).2 j h1 h2).1)
theorem ImD.one {Z : Nat} {w : World} {im : List Value} {J : Im} (h : ImD Z w im J) (hl : im.length = 12) : im.toArray.all (·.oneCell') = true := by
 obtain ⟨a0, a1, a2, a3, a4, a5, a6, a7, a8, a9, c0, c1, rfl⟩ := list12 hl;obtain ⟨i0, ⟨v1, e1, o1⟩, ⟨v2, e2, o2⟩, ⟨v3, e3, o3⟩, ⟨v4, e4, o4⟩, ⟨v5, e5, o5⟩, ⟨v6, e6, o6⟩, ⟨v7, e7, o7⟩, ⟨v8, e8, us, o8, _⟩, i9, i10, ⟨v11, e11, o11⟩⟩ := h;obtain ⟨_, _, r1, _⟩ := o1.form;obtain ⟨_, _, r2, _⟩ := o2.form;obtain ⟨_, _, r3, _⟩ := o3.form;obtain ⟨_, _, r4, _⟩ := o4.form;obtain ⟨_, _, r5, _⟩ := o5.form;obtain ⟨_, _, r6, _⟩ := o6.form;obtain ⟨_, _, r7, _⟩ := o7.form;obtain ⟨_, _, r8, _⟩ := o8.form;obtain ⟨_, _, r11, _⟩ := o11.form;simp at i0 i9 i10 e1 e2 e3 e4 e5 e6 e7 e8 e11
 subst i0 i9 i10 e1 e2 e3 e4 e5 e6 e7 e8 e11;rw [r1, r2, r3, r4, r5, r6, r7, r8, r11]
 kernel_rfl
theorem ImD.imA {Z : Nat} {w : World} {im : List Value} {J : Im} (h : ImD Z w im J) (hl : im.length = 12) (hJ : ImJ J) : ImA w im J := by
 have ho := h.one hl;obtain ⟨i0, ⟨v1, e1, o1⟩, ⟨v2, e2, o2⟩, ⟨v3, e3, o3⟩, ⟨v4, e4, o4⟩, ⟨v5, e5, o5⟩, ⟨v6, e6, o6⟩, ⟨v7, e7, o7⟩, ⟨v8, e8, o8⟩, i9, i10, ⟨v11, e11, o11⟩⟩ := h;exact ⟨⟨i0, hJ.k.base⟩, ⟨v1, e1, o1.rowG rg_ok, hJ.k.rams⟩, ⟨v2, e2, o2.rowG rg_ok, hJ.k.devs⟩, ⟨v3, e3, o3.rowG tn_ok, hJ.subs⟩, ⟨v4, e4, o4.rowG po_ok, hJ.ports⟩, ⟨v5, e5, o5.rowG gd_ok, hJ.k.regs⟩, ⟨v6, e6, o6.rowG lk_ok, hJ.chs⟩, ⟨v7, e7, o7.rowG lk_ok, hJ.irqs⟩, ⟨v8, e8, o8.plG, hJ.plans⟩, ⟨i9, hJ.master⟩, ⟨i10, hJ.start⟩, ⟨v11, e11, o11.tbG, hJ.k.tabs⟩, hl, ho⟩
end Go.Proofs.YtmfkggngjeolcaaGreatDoor
namespace Go.Proofs.YtmfkggngjeolcaaGreatDoor
open Go.RowKit Bn Dc
theorem rd_build {ao : Option Addr} {n cap : Nat} (W : World) : (Instr.build 144 #[(0, .slice ao n cap)]).run Tryz.prog W = .ok (.agg (rdN (.slice ao n cap) im0 en0 0 (.pointer none) 0 0 0).toArray) W := run_build W _ _ _ (by kernel_rfl)
def whA (sec ad : Int) : Array Value := #[.int .i64 sec, .int .i64 ad]
theorem info_wh (sec ad : Int) : (Tryz.prog.info? 94).map (·.size) = some (whA sec ad).size := by kernel_rfl
theorem dec_results {T : Array Value} {W : World} {b1 b2 : Nat} {im : List Value} {sec ad : Int} {y : Value} (h2 : T[2]?.getD undef = .pointer (some ⟨b1, 0, none⟩)) (h3 : T[3]?.getD undef = .pointer (some ⟨b2, 0, none⟩)) (h4 : T[4]?.getD undef = y) (k1 : W.heap[b1]? = some (.cells im.toArray 33 (0, 0))) (hl : im.length = 12) (k2 : W.heap[b2]? = some (.cells (whA sec ad) 94 (0, 0))) : (results Tryz.f27 T).run Tryz.prog W = .ok (.tuple #[.agg im.toArray, .agg (whA sec ad), y]) W := by
 have l1 : (loadVar 33 ⟨b1, 0, none⟩).run Tryz.prog W = .ok (.agg im.toArray) W := run_loadVar_row _ _ _ _ _ _ _ k1 Tryz.underlying33 rfl (info_im hl);have l2 : (loadVar 94 ⟨b2, 0, none⟩).run Tryz.prog W = .ok (.agg (whA sec ad)) W := run_loadVar_row _ _ _ _ _ _ _ k2 Tryz.underlying94 rfl (info_wh sec ad);simp only [results, Tryz.results27];simp [Sem.run_bind, Result.andThen, h2, h3, h4, asAddr, l1, l2]
def DecQ (Z : Nat) (bs : List Nat) (e : Ending) (w' : World) : Prop := ((decA bs).why = 0 ∧ ∃ im, e = .returned (.tuple #[.agg im.toArray, .agg (whA 0 0), .int .i64 0]) ∧ im.length = 12 ∧ ImD Z w' im (decA bs).J) ∨ ((decA bs).why ≠ 0 ∧ e = .returned (.tuple #[.agg im0.toArray, .agg (whA (decA bs).sec (decA bs).ad), .int .i64 (decA bs).why]))
theorem row_keeps (w : World) (b : Nat) (c : Array Value) : Keeps (fun k => k = b) w (w.setRow b c) := ⟨rfl, rfl, rfl, by simp [World.setRow], fun k _ hk => by
 simp only [World.setRow, Array.getElem?_modify];rw [if_neg (fun e => hk e.symm)]⟩
theorem set_other {w : World} {b i j : Nat} (u : Value) (b' : Unit := ()) (h : j ≠ b) : (w.setCell ⟨b, i, none⟩ u).heap[j]? = w.heap[j]? := by
 simp only [World.setCell, Array.getElem?_modify];rw [if_neg (fun e => h e.symm)]
theorem OwnG.kt {Z : Nat → Prop} {β : Type} {t : TypeId} {k : Nat} {enc : β → List Value} {w w' : World} {base : Nat} {v : Value} {xs : List β} (h : OwnG t k enc w base v xs) (hf : Keeps Z w w') (hz : ∀ j, Tagd w t j → ¬ Z j) : OwnG t k enc w' base v xs := by
 obtain ⟨_, _, _, _, _, hj⟩ := h.form;exact h.keeps hf (fun j e => hz j (hj j e).2.2)
def ZIw (w : World) (k : Nat) : Prop := Tagd w 33 k ∨ Tagd w 94 k
theorem ZIw.no {w : World} {t : TypeId} (h1 : t ≠ 33) (h2 : t ≠ 94) (j : Nat) (h : Tagd w t j) : ¬ ZIw w j := fun e => by
 rcases e with e | e
 ·exact h1 (tag_same h e)
 ·exact h2 (tag_same h e)
theorem ImD.kt {Z : Nat} {w w' : World} {im : List Value} {J : Im} (h : ImD Z w im J) (hf : Keeps (ZIw w) w w') : ImD Z w' im J := by
 obtain ⟨h0, ⟨v1, a1, b1⟩, ⟨v2, a2, b2⟩, ⟨v3, a3, b3⟩, ⟨v4, a4, b4⟩, ⟨v5, a5, b5⟩, ⟨v6, a6, b6⟩, ⟨v7, a7, b7⟩, ⟨v8, a8, us, b8, c8⟩, h9, h10, ⟨v11, a11, b11⟩⟩ := h;exact ⟨h0, ⟨v1, a1, b1.kt hf (ZIw.no (by decide) (by decide))⟩, ⟨v2, a2, b2.kt hf (ZIw.no (by decide) (by decide))⟩, ⟨v3, a3, b3.kt hf (ZIw.no (by decide) (by decide))⟩, ⟨v4, a4, b4.kt hf (ZIw.no (by decide) (by decide))⟩, ⟨v5, a5, b5.kt hf (ZIw.no (by decide) (by decide))⟩, ⟨v6, a6, b6.kt hf (ZIw.no (by decide) (by decide))⟩, ⟨v7, a7, b7.kt hf (ZIw.no (by decide) (by decide))⟩, ⟨v8, a8, us, b8.kt hf (ZIw.no (by decide) (by decide)), c8.imp (fun x y ⟨e, vs, o, t⟩ => ⟨e, vs, o.kt hf (ZIw.no (by decide) (by decide)), t.imp (fun a b o => o.kt hf (ZIw.no (by decide) (by decide)))⟩)⟩, h9, h10, ⟨v11, a11, b11.kt hf (ZIw.no (by decide) (by decide))⟩⟩
theorem row_ne {w : World} {b i : Nat} (hc : i ≠ b) (d : Array Value) : (w.setRow b d).heap[i]? = w.heap[i]? := by
 simp only [World.setRow, Array.getElem?_modify];rw [if_neg (fun e => hc e.symm)]
def setsW (b : Nat) : List (Nat × Value) → World → World
 | [], w => w
 | p :: r, w => setsW b r (w.setCell ⟨b, p.1, none⟩ p.2)
theorem sets_heap {b : Nat} {t : TypeId} : ∀ (L : List (Nat × Value)) {w : World} {cs : List Value}, w.heap[b]? = some (.cells cs.toArray t (0, 0)) → (setsW b L w).heap[b]? = some (.cells (L.foldl (fun cs p => cs.set p.1 p.2) cs).toArray t (0, 0))
 | [], _, _, h => h
 | p :: r, _, _, h => sets_heap r (box_set h p.1 p.2)
theorem sets_other {b j : Nat} (hj : j ≠ b) : ∀ (L : List (Nat × Value)) (w : World), (setsW b L w).heap[j]? = w.heap[j]?
 | [], _ => rfl
 | p :: r, w => (sets_other hj r _).trans (set_other p.2 () hj)
theorem sets_below {b n : Nat} (hb : n ≤ b) {w : World} : ∀ (L : List (Nat × Value)) {w2 : World}, Below n w w2 → Below n w (setsW b L w2)
 | [], _, h => h
 | p :: r, _, h => sets_below hb r (h.setCell hb p.2)
def stoL : List (Nat × Value) := [(0, .int .u64 0), (1, .slice none 0 0), (2, .slice none 0 0), (3, .slice none 0 0), (4, .slice none 0 0), (5, .slice none 0 0), (6, .slice none 0 0), (7, .slice none 0 0), (8, .slice none 0 0), (9, .int .i64 0), (10, .int .i64 0), (11, .slice none 0 0)]
theorem drew_heap (w : World) : w.drew.heap = w.heap := rfl
theorem sto_a {a b : Nat} {t : TypeId} {L1 L2 : List (Nat × Value)} {cs : List Value} {w2 : World} (hab : a ≠ b) (h1 : w2.heap[a]? = some (.cells cs.toArray t (0, 0))) : (setsW b L2 (setsW a L1 w2)).drew.heap[a]? = some (.cells (L1.foldl (fun cs p => cs.set p.1 p.2) cs).toArray t (0, 0)) := by
 rw [drew_heap, sets_other hab];exact sets_heap L1 h1
theorem sto_b {a b : Nat} {t : TypeId} {L1 L2 : List (Nat × Value)} {cs : List Value} {w2 : World} (hab : a ≠ b) (h2 : w2.heap[b]? = some (.cells cs.toArray t (0, 0))) : (setsW b L2 (setsW a L1 w2)).drew.heap[b]? = some (.cells (L2.foldl (fun cs p => cs.set p.1 p.2) cs).toArray t (0, 0)) := by
 rw [drew_heap];refine sets_heap L2 ?_;rw [sets_other (Ne.symm hab)];exact h2
theorem sto_c {a b n : Nat} {L1 L2 : List (Nat × Value)} {w w2 : World} (h : Below n w w2) (ha : n ≤ a) (hb : n ≤ b) : Below n w (setsW b L2 (setsW a L1 w2)).drew := (sets_below hb L2 (sets_below ha L1 h)).trans ⟨rfl, rfl, rfl, Nat.le_refl _, fun _ _ => rfl⟩
theorem fold_im0 : stoL.foldl (fun cs p => cs.set p.1 p.2) im0 = im0 := rfl
theorem fold_wh (sec ad : Int) : ([(0, .int .i64 sec), (1, .int .i64 ad)] : List (Nat × Value)).foldl (fun cs p => cs.set p.1 p.2) [.int .i64 0, .int .i64 0] = [.int .i64 sec, .int .i64 ad] := rfl
def stoD (a b : Nat) (sec ad : Int) (w2 : World) : World := (setsW b [(0, .int .i64 sec), (1, .int .i64 ad)] (setsW a stoL w2)).drew
theorem sto_heap {a b : Nat} {sec ad : Int} {w2 : World} (hab : a ≠ b) (h1 : w2.heap[a]? = some (.cells im0.toArray 33 (0, 0))) (h2 : w2.heap[b]? = some (.cells (whA 0 0) 94 (0, 0))) : (stoD a b sec ad w2).heap[a]? = some (.cells im0.toArray 33 (0, 0)) ∧ (stoD a b sec ad w2).heap[b]? = some (.cells (whA sec ad) 94 (0, 0)) := by
 have r1 := sto_a (L1 := stoL) (L2 := [(0, .int .i64 sec), (1, .int .i64 ad)]) hab h1;have r2 := sto_b (L1 := stoL) (L2 := [(0, .int .i64 sec), (1, .int .i64 ad)]) (cs := [.int .i64 0, .int .i64 0]) hab h2;rw [fold_im0] at r1;rw [fold_wh] at r2;exact ⟨r1, r2⟩
theorem sto_below {a b n : Nat} {sec ad : Int} {w w2 : World} (h : Below n w w2) (ha : n ≤ a) (hb : n ≤ b) : Below n w (stoD a b sec ad w2) := sto_c h ha hb
theorem dall_any {B kb : Nat} {w0 w : World} {v : Value} {bs : List Nat} (h : Dn B kb v im0 en0 0 (.pointer none) w0 0 0 0 w) (hraw : ∀ W, Fd B w0 W → Sl W v bs) (ht : ∀ W, Fd B w0 W → Tab W) : Calls Tryz.prog 78 #[.pointer (some ⟨kb, 0, none⟩)] w fun e w' => e = .returned (.tuple #[]) ∧ AllQ B kb v bs w0 w' := by
 have h9 := hraw w h.fr
 by_cases hl : bs.length < 160
 ·obtain ⟨ao, cap, rfl, _⟩ := h9;refine (dallShortX h hl hraw).mono (fun e w' ⟨he, im, en, pt, pv, hd⟩ => ⟨he, im, en, pt, pv, ?_, fun hy => ?_⟩)
  ·rw [decA, if_pos hl];exact hd
  ·rw [decA, if_pos hl] at hy;exact absurd hy (show ¬ (10 : Int) = 0 by decide)
 ·obtain ⟨rb, ro, cap, rfl, _⟩ := h9.pos (by omega);exact dallX h (by omega) hraw ht
theorem wpList_load_tyR {ops : Array Oper} {rest : List Oper} {o : Oper} {a : Act} {w : World} {Q : Exit → Act → World → Prop} (hgd : o.guard = none) (ty : TypeId) (x : Operand) (ho : o.op = .load ty x) {p V : Value} (hx : a.eval x = p) (hl : (Instr.loadAt ty p).run Tryz.prog w = .ok V w) (hk : wpList Tryz.prog ops Q rest (a.put o.dst V) w) : wpList Tryz.prog ops Q (o :: rest) a w :=
 wpList_plain hgd fun K hK => by
  unfold Oper.wp execOp;simp only [ho, hx, Sem.run_bind, Sem.run_pure, Result.andThen_ok, hl];exact hK _ _ hk
theorem im_load {B kb : Nat} {raw : Value} {im en : List Value} {pt : Int} {pv : Value} {w0 w : World} {why sec ad : Int} (h : Dn B kb raw im en pt pv w0 why sec ad w) : (Instr.loadAt 33 (.pointer (some ⟨kb, 1, none⟩))).run Tryz.prog w = .ok (.agg im.toArray) w := by
 have hS : Tryz.prog.underlying 33 = some (.struct (Tryz.prog.fieldsOf 33)) := by kernel_rfl
 have hz : (Tryz.prog.info? 33).map (·.size) = some im.length := by rw [h.him]; kernel_rfl
 exact run_loadAt_mid (P := Tryz.prog) w kb 1 33 im _ (fun j x hx => by
  have hj := (List.getElem?_eq_some_iff.1 hx).1;rw [h.cell, rdN, show 1 + j = j + 1 by omega, List.getElem?_cons_succ, List.getElem?_append_left hj];exact hx) hS rfl hz
theorem decodeX {w : World} {v : Value} {bs : List Nat} (hs : Sl w v bs) (ht : Tab w) : Calls Tryz.prog 27 #[v] w fun e w' => DecQ (w.heap.size + 2) bs e w' ∧ Below w.heap.size w w' := by
 obtain ⟨ao, cap, hv, _⟩ := id hs;obtain ⟨W1, hW1⟩ : ∃ W, w.alloc (.cells im0.toArray 33) = W := ⟨_, rfl⟩
 obtain ⟨W2, hW2⟩ : ∃ W, W1.alloc (.cells (whA 0 0) 94) = W := ⟨_, rfl⟩
 obtain ⟨W3, hW3⟩ : ∃ W, W2.alloc (.cells (rdN v im0 en0 0 (.pointer none) 0 0 0).toArray 144) = W := ⟨_, rfl⟩
 have s1 : W1.heap.size = w.heap.size + 1 := by rw [← hW1]; simp
 have s2 : W2.heap.size = w.heap.size + 2 := by rw [← hW2]; simp [s1]
 have s3 : W3.heap.size = w.heap.size + 3 := by rw [← hW3]; simp [s2]
 have b1 : Below w.heap.size w W1 := by rw [← hW1]; exact (Below.refl _ _).alloc (Nat.le_refl _) _
 have b2 : Below W1.heap.size W1 W2 := by rw [← hW2]; exact (Below.refl _ _).alloc (Nat.le_refl _) _
 have b3 : Below W2.heap.size W2 W3 := by rw [← hW3]; exact (Below.refl _ _).alloc (Nat.le_refl _) _
 have b13 : Below W1.heap.size W1 W3 := b2.trans (b3.mono (by omega));have b03 : Below w.heap.size w W3 := b1.trans (b13.mono (by omega));have k1 : W3.heap[w.heap.size]? = some (.cells im0.toArray 33 (0, 0)) := (b13.block w.heap.size (by omega)).trans (by rw [← hW1]; exact heap_alloc_new w _);have k2 : W3.heap[w.heap.size + 1]? = some (.cells (whA 0 0) 94 (0, 0)) := (b3.block (w.heap.size + 1) (by omega)).trans (by rw [← hW2, ← s1]; exact heap_alloc_new W1 _);have k3 : W3.heap[w.heap.size + 2]? = some (.cells (rdN v im0 en0 0 (.pointer none) 0 0 0).toArray 144 (0, 0)) := by rw [← hW3, ← s2]; exact heap_alloc_new W2 _
 have hf : ∀ W, Fd (w.heap.size + 2) W3 W → Below (w.heap.size + 2) W3 W := fun W hW => hW.below (by have := b3.size; omega);have hA := dall_any (B := w.heap.size + 2) (kb := w.heap.size + 2) (w0 := W3) (w := W3) (v := v) (bs := bs) ⟨k3, rfl, rfl, Nat.le_refl _, Fd.refl _ _⟩ (fun W hW => hs.below (b03.trans ((hf W hW).mono (by omega)))) (fun W hW => ht.below (b03.trans ((hf W hW).mono (by omega))));have HA := Lib.hid hA;have K1 : Hid (∀ W, Fd (w.heap.size + 2) W3 W → W.heap[w.heap.size]? = some (.cells im0.toArray 33 (0, 0)) ∧ W.heap[w.heap.size + 1]? = some (.cells (whA 0 0) 94 (0, 0)) ∧ Below w.heap.size w W) := fun W hW => ⟨((hf W hW).block w.heap.size (by omega)).trans k1, ((hf W hW).block (w.heap.size + 1) (by omega)).trans k2, b03.trans ((hf W hW).mono (by omega))⟩
 subst hv;have HB := Lib.hid (fun W => rd_build (ao := ao) (n := bs.length) (cap := cap) W);clear hs ht k1 k2 k3 hf hA b1 b2 b3 b13 b03;obtain ⟨y, hy⟩ : ∃ y, (decA bs).why = y := ⟨_, rfl⟩
 obtain ⟨sec, hsec⟩ : ∃ y, (decA bs).sec = y := ⟨_, rfl⟩
 obtain ⟨ad, had⟩ : ∃ y, (decA bs).ad = y := ⟨_, rfl⟩
 have HG : Hid (DecQ (w.heap.size + 2) bs = fun e w' => (y = 0 ∧ ∃ im, e = .returned (.tuple #[.agg im.toArray, .agg (whA 0 0), .int .i64 0]) ∧ im.length = 12 ∧ ImD (w.heap.size + 2) w' im (decA bs).J) ∨ (y ≠ 0 ∧ e = .returned (.tuple #[.agg im0.toArray, .agg (whA sec ad), .int .i64 y]))) := show _ = _ by
  funext e w'
  rw [← hy, ← hsec, ← had]
  rfl
 rw [HG.out];have HY := Lib.hid hy;have HSe := Lib.hid hsec;have HAd := Lib.hid had;clear HG hy hsec had;go_enter Tryz.func27, Tryz.ntmps27
 go_wp2_with (refine wpList_lbuild rfl 144 #[(0, .tmp 6)] rfl #[(0, .slice ao bs.length cap)] (by simp [Act.eval, Act.put]) (fun W => HB.out W) ?_)
 subst hW3 hW2 hW1;refine HA.out.mono ?_;rintro e w2 ⟨rfl, im, en, pt, pv, hd, hi⟩;obtain ⟨q1, q2, q3⟩ := K1.out _ hd.fr;have hl := hd.him;have HQ1 := Lib.hid q1;have HQ2 := Lib.hid q2;have HQ3 := Lib.hid q3;have HD := Lib.hid hd;have HI := Lib.hid hi;have HL : Hid (im.length = 12) := hl;rw [HY.out, HSe.out, HAd.out] at HD;rw [HY.out] at HI;have c62 : w2.cell? ⟨w.heap.size + 2, 62, none⟩ = some (.int .i64 y) := HD.out.cend 4;have HC : Hid (w2.cell? ⟨w.heap.size + 2, 60, none⟩ = some (.int .i64 sec) ∧ w2.cell? ⟨w.heap.size + 2, 61, none⟩ = some (.int .i64 ad)) := ⟨HD.out.cend 2, HD.out.cend 3⟩
 clear hd hi q1 q2 q3 hl HY HSe HAd HA K1 HB;dsimp only
 by_cases hy0 : y = 0
 ·subst hy0;have HO : Hid (im.toArray.all (·.oneCell') = true) := (HI.out rfl).one HL.out;have HI0 : Hid (ImD (w.heap.size + 2) w2 im (decA bs).J) := HI.out rfl;clear HI;have HM : Hid ((Instr.loadAt 33 (.pointer (some ⟨w.heap.size + 1 + 1, 1, none⟩))).run Tryz.prog w2 = .ok (.agg im.toArray) w2) := im_load HD.out;have HW2 : Hid ((w2.setRow w.heap.size im.toArray).heap[w.heap.size + 1]? = some (.cells (whA 0 0) 94 (0, 0))) := show _ = _ by rw [row_ne (by omega) _]; exact HQ2.out
  have HF1 : Hid (((w2.setRow w.heap.size im.toArray).setRow (w.heap.size + 1) (whA 0 0)).heap[w.heap.size]? = some (.cells im.toArray 33 (0, 0))) := show _ = _ by rw [row_ne (by omega) _]; exact setRow_heap _ _ _ _ _ _ HQ1.out
  have HF2 : Hid (((w2.setRow w.heap.size im.toArray).setRow (w.heap.size + 1) (whA 0 0)).heap[w.heap.size + 1]? = some (.cells (whA 0 0) 94 (0, 0))) := setRow_heap _ _ _ _ _ _ HW2.out;go_wp2_with (first | (refine wpList_load_tyR rfl 33 (.tmp 27) rfl rfl HM.out ?_) | (refine wpList_store_arr rfl 33 (.tmp 2) (.tmp 28) rfl (b := w.heap.size) (Z := im0.toArray) (g := im.toArray) rfl rfl rfl HQ1.out (info_im HL.out) (by simp [HL.out, im0]) HO.out ?_) | (refine wpList_store_arr rfl 94 (.tmp 3) (.tmp 29) rfl (b := w.heap.size + 1) (Z := whA 0 0) (g := whA 0 0) rfl rfl rfl HW2.out (info_wh 0 0) rfl (by kernel_rfl) ?_))
  refine bodyPost_ret (dec_results rfl rfl rfl HF1.out HL.out HF2.out) rfl ?_;refine ⟨⟨im, rfl, HL.out, HI0.out.kt (w' := (w2.setRow w.heap.size im.toArray).setRow (w.heap.size + 1) (whA 0 0)) ?_⟩, ?_⟩
  ·refine (Keeps.mono (row_keeps w2 w.heap.size _) (fun k _ e => ?_)).trans (row_keeps _ (w.heap.size + 1) _) (fun k _ e => ?_)
   ·subst e;exact .inl ⟨_, HQ1.out⟩
   ·subst e;exact .inr ⟨_, HQ2.out⟩
  ·exact HQ3.out.trans ((below_setRow _ _ _ _ (Nat.le_refl _)).trans (below_setRow _ _ _ _ (by omega)))
 ·go_upto_region 4 with fail
  have FR2 : Hid (∀ (W : World) b c t, W.heap[b]? = some (.cells c t (0, 0)) → ∀ i, W.frozen? ⟨b, i, none⟩ = false) := fun W b c t h i => box_free h i;have FR : Hid (∀ (W : World) b c t, W.heap[b]? = some (.cells c t (0, 0)) → ∀ i, W.drew.frozen? ⟨b, i, none⟩ = false) := fun W b c t h i => box_free (show W.drew.heap[b]? = some (.cells c t (0, 0)) from h) i;have y0 : w2.drew.cell? ⟨w.heap.size, 0, none⟩ = some (.int .u64 0) := by rw [show w2.drew.cell? ⟨w.heap.size, 0, none⟩ = w2.cell? ⟨w.heap.size, 0, none⟩ from rfl, cell_of_row _ _ 0 _ _ _ HQ1.out]; rfl
  have z0 : w2.drew.frozen? ⟨w.heap.size, 0, none⟩ = false := FR.out _ _ _ _ HQ1.out _;have y1 : w2.drew.cell? ⟨w.heap.size, 1, none⟩ = some (.slice none 0 0) := by rw [show w2.drew.cell? ⟨w.heap.size, 1, none⟩ = w2.cell? ⟨w.heap.size, 1, none⟩ from rfl, cell_of_row _ _ 1 _ _ _ HQ1.out]; rfl
  have z1 : w2.drew.frozen? ⟨w.heap.size, 1, none⟩ = false := FR.out _ _ _ _ HQ1.out _;have y2 : w2.drew.cell? ⟨w.heap.size, 2, none⟩ = some (.slice none 0 0) := by rw [show w2.drew.cell? ⟨w.heap.size, 2, none⟩ = w2.cell? ⟨w.heap.size, 2, none⟩ from rfl, cell_of_row _ _ 2 _ _ _ HQ1.out]; rfl
  have z2 : w2.drew.frozen? ⟨w.heap.size, 2, none⟩ = false := FR.out _ _ _ _ HQ1.out _;have y3 : w2.drew.cell? ⟨w.heap.size, 3, none⟩ = some (.slice none 0 0) := by rw [show w2.drew.cell? ⟨w.heap.size, 3, none⟩ = w2.cell? ⟨w.heap.size, 3, none⟩ from rfl, cell_of_row _ _ 3 _ _ _ HQ1.out]; rfl
  have z3 : w2.drew.frozen? ⟨w.heap.size, 3, none⟩ = false := FR.out _ _ _ _ HQ1.out _;have y4 : w2.drew.cell? ⟨w.heap.size, 4, none⟩ = some (.slice none 0 0) := by rw [show w2.drew.cell? ⟨w.heap.size, 4, none⟩ = w2.cell? ⟨w.heap.size, 4, none⟩ from rfl, cell_of_row _ _ 4 _ _ _ HQ1.out]; rfl
  have z4 : w2.drew.frozen? ⟨w.heap.size, 4, none⟩ = false := FR.out _ _ _ _ HQ1.out _;have y5 : w2.drew.cell? ⟨w.heap.size, 5, none⟩ = some (.slice none 0 0) := by rw [show w2.drew.cell? ⟨w.heap.size, 5, none⟩ = w2.cell? ⟨w.heap.size, 5, none⟩ from rfl, cell_of_row _ _ 5 _ _ _ HQ1.out]; rfl
  have z5 : w2.drew.frozen? ⟨w.heap.size, 5, none⟩ = false := FR.out _ _ _ _ HQ1.out _;have y6 : w2.drew.cell? ⟨w.heap.size, 6, none⟩ = some (.slice none 0 0) := by rw [show w2.drew.cell? ⟨w.heap.size, 6, none⟩ = w2.cell? ⟨w.heap.size, 6, none⟩ from rfl, cell_of_row _ _ 6 _ _ _ HQ1.out]; rfl
  have z6 : w2.drew.frozen? ⟨w.heap.size, 6, none⟩ = false := FR.out _ _ _ _ HQ1.out _;have y7 : w2.drew.cell? ⟨w.heap.size, 7, none⟩ = some (.slice none 0 0) := by rw [show w2.drew.cell? ⟨w.heap.size, 7, none⟩ = w2.cell? ⟨w.heap.size, 7, none⟩ from rfl, cell_of_row _ _ 7 _ _ _ HQ1.out]; rfl
  have z7 : w2.drew.frozen? ⟨w.heap.size, 7, none⟩ = false := FR.out _ _ _ _ HQ1.out _;have y8 : w2.drew.cell? ⟨w.heap.size, 8, none⟩ = some (.slice none 0 0) := by rw [show w2.drew.cell? ⟨w.heap.size, 8, none⟩ = w2.cell? ⟨w.heap.size, 8, none⟩ from rfl, cell_of_row _ _ 8 _ _ _ HQ1.out]; rfl
  have z8 : w2.drew.frozen? ⟨w.heap.size, 8, none⟩ = false := FR.out _ _ _ _ HQ1.out _;have y9 : w2.drew.cell? ⟨w.heap.size, 9, none⟩ = some (.int .i64 0) := by rw [show w2.drew.cell? ⟨w.heap.size, 9, none⟩ = w2.cell? ⟨w.heap.size, 9, none⟩ from rfl, cell_of_row _ _ 9 _ _ _ HQ1.out]; rfl
  have z9 : w2.drew.frozen? ⟨w.heap.size, 9, none⟩ = false := FR.out _ _ _ _ HQ1.out _;have y10 : w2.drew.cell? ⟨w.heap.size, 10, none⟩ = some (.int .i64 0) := by rw [show w2.drew.cell? ⟨w.heap.size, 10, none⟩ = w2.cell? ⟨w.heap.size, 10, none⟩ from rfl, cell_of_row _ _ 10 _ _ _ HQ1.out]; rfl
  have z10 : w2.drew.frozen? ⟨w.heap.size, 10, none⟩ = false := FR.out _ _ _ _ HQ1.out _;have y11 : w2.drew.cell? ⟨w.heap.size, 11, none⟩ = some (.slice none 0 0) := by rw [show w2.drew.cell? ⟨w.heap.size, 11, none⟩ = w2.cell? ⟨w.heap.size, 11, none⟩ from rfl, cell_of_row _ _ 11 _ _ _ HQ1.out]; rfl
  have z11 : w2.drew.frozen? ⟨w.heap.size, 11, none⟩ = false := FR.out _ _ _ _ HQ1.out _;have v0 : w2.drew.cell? ⟨w.heap.size + 1, 0, none⟩ = some (.int .i64 0) := by rw [show w2.drew.cell? ⟨w.heap.size + 1, 0, none⟩ = w2.cell? ⟨w.heap.size + 1, 0, none⟩ from rfl, cell_of_row _ _ 0 _ _ _ HQ2.out]; rfl
  have u0 : w2.drew.frozen? ⟨w.heap.size + 1, 0, none⟩ = false := FR.out _ _ _ _ HQ2.out _;have v1 : w2.drew.cell? ⟨w.heap.size + 1, 1, none⟩ = some (.int .i64 0) := by rw [show w2.drew.cell? ⟨w.heap.size + 1, 1, none⟩ = w2.cell? ⟨w.heap.size + 1, 1, none⟩ from rfl, cell_of_row _ _ 1 _ _ _ HQ2.out]; rfl
  have u1 : w2.drew.frozen? ⟨w.heap.size + 1, 1, none⟩ = false := FR.out _ _ _ _ HQ2.out _;have y0' : w2.cell? ⟨w.heap.size, 0, none⟩ = some (.int .u64 0) := by rw [cell_of_row _ _ 0 _ _ _ HQ1.out]; rfl
  have z0' : w2.frozen? ⟨w.heap.size, 0, none⟩ = false := FR2.out _ _ _ _ HQ1.out _;have y1' : w2.cell? ⟨w.heap.size, 1, none⟩ = some (.slice none 0 0) := by rw [cell_of_row _ _ 1 _ _ _ HQ1.out]; rfl
  have z1' : w2.frozen? ⟨w.heap.size, 1, none⟩ = false := FR2.out _ _ _ _ HQ1.out _;have y2' : w2.cell? ⟨w.heap.size, 2, none⟩ = some (.slice none 0 0) := by rw [cell_of_row _ _ 2 _ _ _ HQ1.out]; rfl
  have z2' : w2.frozen? ⟨w.heap.size, 2, none⟩ = false := FR2.out _ _ _ _ HQ1.out _;have y3' : w2.cell? ⟨w.heap.size, 3, none⟩ = some (.slice none 0 0) := by rw [cell_of_row _ _ 3 _ _ _ HQ1.out]; rfl
  have z3' : w2.frozen? ⟨w.heap.size, 3, none⟩ = false := FR2.out _ _ _ _ HQ1.out _;have y4' : w2.cell? ⟨w.heap.size, 4, none⟩ = some (.slice none 0 0) := by rw [cell_of_row _ _ 4 _ _ _ HQ1.out]; rfl
  have z4' : w2.frozen? ⟨w.heap.size, 4, none⟩ = false := FR2.out _ _ _ _ HQ1.out _;have y5' : w2.cell? ⟨w.heap.size, 5, none⟩ = some (.slice none 0 0) := by rw [cell_of_row _ _ 5 _ _ _ HQ1.out]; rfl
  have z5' : w2.frozen? ⟨w.heap.size, 5, none⟩ = false := FR2.out _ _ _ _ HQ1.out _;have y6' : w2.cell? ⟨w.heap.size, 6, none⟩ = some (.slice none 0 0) := by rw [cell_of_row _ _ 6 _ _ _ HQ1.out]; rfl
  have z6' : w2.frozen? ⟨w.heap.size, 6, none⟩ = false := FR2.out _ _ _ _ HQ1.out _;have y7' : w2.cell? ⟨w.heap.size, 7, none⟩ = some (.slice none 0 0) := by rw [cell_of_row _ _ 7 _ _ _ HQ1.out]; rfl
  have z7' : w2.frozen? ⟨w.heap.size, 7, none⟩ = false := FR2.out _ _ _ _ HQ1.out _;have y8' : w2.cell? ⟨w.heap.size, 8, none⟩ = some (.slice none 0 0) := by rw [cell_of_row _ _ 8 _ _ _ HQ1.out]; rfl
  have z8' : w2.frozen? ⟨w.heap.size, 8, none⟩ = false := FR2.out _ _ _ _ HQ1.out _;have y9' : w2.cell? ⟨w.heap.size, 9, none⟩ = some (.int .i64 0) := by rw [cell_of_row _ _ 9 _ _ _ HQ1.out]; rfl
  have z9' : w2.frozen? ⟨w.heap.size, 9, none⟩ = false := FR2.out _ _ _ _ HQ1.out _;have y10' : w2.cell? ⟨w.heap.size, 10, none⟩ = some (.int .i64 0) := by rw [cell_of_row _ _ 10 _ _ _ HQ1.out]; rfl
  have z10' : w2.frozen? ⟨w.heap.size, 10, none⟩ = false := FR2.out _ _ _ _ HQ1.out _;have y11' : w2.cell? ⟨w.heap.size, 11, none⟩ = some (.slice none 0 0) := by rw [cell_of_row _ _ 11 _ _ _ HQ1.out]; rfl
  have z11' : w2.frozen? ⟨w.heap.size, 11, none⟩ = false := FR2.out _ _ _ _ HQ1.out _;have v0' : w2.cell? ⟨w.heap.size + 1, 0, none⟩ = some (.int .i64 0) := by rw [cell_of_row _ _ 0 _ _ _ HQ2.out]; rfl
  have u0' : w2.frozen? ⟨w.heap.size + 1, 0, none⟩ = false := FR2.out _ _ _ _ HQ2.out _;have v1' : w2.cell? ⟨w.heap.size + 1, 1, none⟩ = some (.int .i64 0) := by rw [cell_of_row _ _ 1 _ _ _ HQ2.out]; rfl
  have u1' : w2.frozen? ⟨w.heap.size + 1, 1, none⟩ = false := FR2.out _ _ _ _ HQ2.out _;have x60' : w2.cell? ⟨w.heap.size + 1 + 1, 60, none⟩ = some (.int .i64 sec) := HC.out.1;have x61' : w2.cell? ⟨w.heap.size + 1 + 1, 61, none⟩ = some (.int .i64 ad) := HC.out.2;have x62' : w2.cell? ⟨w.heap.size + 1 + 1, 62, none⟩ = some (.int .i64 y) := c62;have x60 : w2.drew.cell? ⟨w.heap.size + 1 + 1, 60, none⟩ = some (.int .i64 sec) := HC.out.1;have x61 : w2.drew.cell? ⟨w.heap.size + 1 + 1, 61, none⟩ = some (.int .i64 ad) := HC.out.2;have x62 : w2.drew.cell? ⟨w.heap.size + 1 + 1, 62, none⟩ = some (.int .i64 y) := c62;have hs1 := sto_heap (sec := sec) (ad := ad) (show w.heap.size ≠ w.heap.size + 1 by omega) HQ1.out HQ2.out;have hs2 := sto_below (sec := sec) (ad := ad) HQ3.out (Nat.le_refl w.heap.size) (Nat.le_succ w.heap.size);have HS : Hid (((stoD w.heap.size (w.heap.size + 1) sec ad w2).heap[w.heap.size]? = some (.cells im0.toArray 33 (0, 0)) ∧ (stoD w.heap.size (w.heap.size + 1) sec ad w2).heap[w.heap.size + 1]? = some (.cells (whA sec ad) 94 (0, 0))) ∧ Below w.heap.size w (stoD w.heap.size (w.heap.size + 1) sec ad w2)) := ⟨hs1, hs2⟩
  clear hs1 hs2;go_cut [4] (fun y4 wx => y4 = .int .i64 y ∧ wx = stoD w.heap.size (w.heap.size + 1) sec ad w2)
  case first =>
   go_region
   all_goals
    go_wp2_with fail
    go_meet
    exact ⟨rfl, by kernel_rfl⟩
  case rest =>
   obtain ⟨rfl, hw9⟩ := hcut;rw [← hw9] at HS;clear hw9 HQ1 HQ2 HD HC HI x60 x61 x62 x60' x61' x62' c62;go_wp2_with fail
   refine bodyPost_ret (dec_results rfl rfl rfl HS.out.1.1 rfl HS.out.1.2) rfl ?_;refine ⟨?_, HS.out.2⟩
   first | exact rfl | exact .inr ⟨hy0, rfl⟩ | simp [hy0]
end Go.Proofs.YtmfkggngjeolcaaGreatDoor
