import Derived.Test.YtmfkggngjeolcaaGreatDoorPk28
set_option linter.unusedSimpArgs false
set_option linter.unusedVariables false
namespace Go.Proofs.YtmfkggngjeolcaaGreatDoor
open Bn Dc
namespace Dc
theorem gap_up {n a : Nat} (h : n % 8 = a % 8) : upN a 8 - a = gapN n 8 := by
 unfold upN gapN
 split <;> omega
def textB (a : Nat) (t : ByteArray) : List Nat := b4 (t.size : Int) ++ (bts t ++ bz (upN (a + 4 + t.size) 8 - (a + 4 + t.size)))
def gdB (a : Nat) (g : Gd) : List Nat := Pl.le 8 g.ad ++ (Pl.le 8 g.sz ++ (b1 (g.fill : Int) ++ (bz 3 ++ textB (a + 20) g.txt)))
def manyB (n : Nat) : List Nat := b2 (n : Int) ++ bz 6
def laneB (l : List (Int × Int)) : List Nat := manyB l.length ++ layL (fun _ => stB) 0 l
def planB (p : Sc) : List Nat := b4 p.maj ++ (bz 4 ++ layL (fun _ => laneB) 0 p.lanes)
section
variable {q : Pt} {s : D}
theorem manyB_len (n : Nat) : (manyB n).length = 8 := by simp [manyB, b2_len, bz_len]
theorem layC_any {γ : Type} (f : γ → List Nat) : ∀ (xs : List γ) (a b : Nat), layL (fun _ => f) a xs = layL (fun _ => f) b xs
 | [], _, _ => rfl
 | x :: xs, a, b => by rw [layL, layL, layC_any f xs]
end
end Dc
end Go.Proofs.YtmfkggngjeolcaaGreatDoor
namespace Go.Proofs.YtmfkggngjeolcaaGreatDoor
open Bn Dc
namespace Dc
def Ok (s : D) : Prop := s.why = 0 ∧ s.rw = 0
def Sb (q : Pt) : Prop := ∀ z ∈ q.Z, z < 256
theorem Ah.app {q : Pt} {s : D} {a b : List Nat} (h : Ah q s a) (k : Ah q (fw s a.length) b) : Ah q s (a ++ b) := by
 obtain ⟨u, hu⟩ := h.eq;obtain ⟨v, hv⟩ := k.eq;have hk := k.le;have e : (fw s a.length).pos = s.pos + a.length := rfl;rw [e] at hk hv;rw [← List.drop_drop, hu, List.drop_left] at hv;exact ⟨h.rw0, by rw [List.length_append]; omega, v, by rw [hu, hv, List.append_assoc]⟩
theorem le_num : ∀ (k : Nat) (l : List Nat), (∀ z ∈ l, z < 256) → k ≤ l.length → Pl.le k (Pl.num k l) = l.take k
 | 0, l, _, _ => by simp [Pl.le]
 | k + 1, [], _, h => by simp at h
 | k + 1, x :: l, hz, h => by
  have hx : x < 256 := hz x (by simp);have ih := le_num k l (fun z hz' => hz z (by simp [hz'])) (by simpa using h);have e : Pl.num (k + 1) (x :: l) = x + 256 * Pl.num k l := by
   show (x :: l).getD 0 0 + 256 * Pl.acc (x :: l) (0 + 1) k = _
   rw [Pl.acc_cons]
   rfl
  rw [e, List.take_succ_cons, ← ih]
  show (x + 256 * Pl.num k l) % 256 :: Pl.le k ((x + 256 * Pl.num k l) / 256) = _
  rw [show (x + 256 * Pl.num k l) % 256 = x by omega, show (x + 256 * Pl.num k l) / 256 = Pl.num k l by omega]
theorem Ok.go {s : D} (h : goD s = true) : Ok s := by
 unfold goD at h;rw [Bool.and_eq_true] at h;exact ⟨of_decide_eq_true h.1, of_decide_eq_true h.2⟩
theorem Ok.is {s : D} (h : Ok s) : goD s = true := by
 unfold goD;rw [decide_eq_true h.1, decide_eq_true h.2]
 rfl
theorem f1n {n : Nat} (h : n ≤ 255) : f1 (n : Int) := ⟨by omega, by omega⟩
theorem f2n {n : Nat} (h : n ≤ 65535) : f2 (n : Int) := ⟨by omega, by omega⟩
theorem f4n {n : Nat} (h : n ≤ 4294967295) : f4 (n : Int) := ⟨by omega, by omega⟩
theorem form_snd {q : Pt} {b : Bool} {a : Nat} {s : D} (h : Ok (formD q b a s)) : b = true ∧ formD q b a s = s ∧ Ok s := by
 obtain ⟨h1, h2⟩ := ask_zero' (by decide) h.1;subst h1;rw [form_true] at h ⊢;exact ⟨rfl, rfl, h⟩
section
variable {q : Pt} {s : D}
theorem take_snd (hq : Sb q) {k : Nat} (h : Ok (takeD q k s).2) : Ok s ∧ ∃ n, takeD q k s = (n, fw s k) ∧ n < 256 ^ k ∧ Ah q s (Pl.le k n) := by
 unfold takeD at h ⊢
 by_cases h1 : s.rw = 0
 ·by_cases h2 : s.pos + k ≤ q.Z.length
  ·rw [if_pos h1, if_pos h2] at h ⊢;refine ⟨⟨h.1, h1⟩, Pl.num k (q.Z.drop s.pos), by rw [fw, h1], ?_, h1, by rw [Pl.le_length]; exact h2, q.Z.drop (s.pos + k), ?_⟩
   ·exact Pl.acc_lt (fun z hz => hq z (List.mem_of_mem_drop hz)) 0 k
   ·rw [le_num k _ (fun z hz => hq z (List.mem_of_mem_drop hz)) (by rw [List.length_drop]; omega), ← List.drop_drop, List.take_append_drop]
  ·rw [if_pos h1, if_neg h2] at h;exact absurd h.2 (show ¬ (10 : Int) = 0 by decide)
 ·rw [if_neg h1] at h;exact absurd h.2 h1
theorem bytes_snd (hq : Sb q) {n : Nat} (h : Ok (bytesD q n s).2) : Ok s ∧ ∃ l, bytesD q n s = (l, fw s n) ∧ l.length = n ∧ Ah q s l ∧ ∀ z ∈ l, z < 256 := by
 unfold bytesD at h ⊢
 by_cases h1 : s.rw = 0
 ·by_cases h2 : s.pos + n ≤ q.Z.length
  ·rw [if_pos h1, if_pos h2] at h ⊢;have hl : ((q.Z.drop s.pos).take n).length = n := by rw [List.length_take, List.length_drop]; omega
   refine ⟨⟨h.1, h1⟩, (q.Z.drop s.pos).take n, by rw [fw, h1], hl, ⟨h1, by rw [hl]; exact h2, q.Z.drop (s.pos + n), ?_⟩, fun z hz => hq z (List.mem_of_mem_drop (List.mem_of_mem_take hz))⟩;rw [← List.drop_drop, List.take_append_drop]
  ·rw [if_pos h1, if_neg h2] at h;exact absurd h.2 (show ¬ (10 : Int) = 0 by decide)
 ·rw [if_neg h1] at h;exact absurd h.2 h1
theorem allZ_eq {l : List Nat} (h : allZ l = true) : l = bz l.length := List.eq_replicate_of_mem (of_decide_eq_true h)
theorem zeros_snd (hq : Sb q) {n : Nat} (h : Ok (zerosD q n s)) : Ok s ∧ zerosD q n s = fw s n ∧ Ah q s (bz n) := by
 unfold zerosD at h ⊢;obtain ⟨h1, h2, h3⟩ := form_snd h;obtain ⟨h4, l, h5, h6, h7, _⟩ := bytes_snd hq h3;rw [h2];rw [h5] at h1 ⊢;dsimp only at h1;have e := allZ_eq h1;rw [h6] at e;rw [e] at h7;exact ⟨h4, rfl, h7⟩
theorem half_snd (hq : Sb q) (h : Ok (takeD q 2 s).2) : Ok s ∧ ∃ n : Nat, takeD q 2 s = (n, fw s 2) ∧ n ≤ 65535 ∧ Ah q s (b2 (n : Int)) := by
 obtain ⟨h1, n, h2, h3, h4⟩ := take_snd hq h;refine ⟨h1, n, h2, by omega, ?_⟩;unfold b2;rw [show ((n : Int) % 65536).toNat = n by omega];exact h4
theorem byte_snd (hq : Sb q) (h : Ok (takeD q 1 s).2) : Ok s ∧ ∃ n : Nat, takeD q 1 s = (n, fw s 1) ∧ n ≤ 255 ∧ Ah q s (b1 (n : Int)) := by
 obtain ⟨h1, n, h2, h3, h4⟩ := take_snd hq h;refine ⟨h1, n, h2, by omega, ?_⟩;unfold b1;rw [show ((n : Int) % 256).toNat = n by omega];exact h4
theorem word_snd (hq : Sb q) (h : Ok (takeD q 4 s).2) : Ok s ∧ ∃ n : Nat, takeD q 4 s = (n, fw s 4) ∧ n ≤ 4294967295 ∧ Ah q s (b4 (n : Int)) := by
 obtain ⟨h1, n, h2, h3, h4⟩ := take_snd hq h;refine ⟨h1, n, h2, by omega, ?_⟩;unfold b4;rw [show ((n : Int) % 4294967296).toNat = n by omega];exact h4
theorem none_snd (hq : Sb q) (h : Ok (noneD q s).2) : Ok s ∧ ∃ k : Int, noneD q s = (k, fw s 2) ∧ fn k ∧ Ah q s (b2 k) := by
 obtain ⟨h1, n, h2, h3, h4⟩ := take_snd hq (show Ok (takeD q 2 s).2 from h);refine ⟨h1, noneV n, by rw [noneD, h2], ?_, ?_⟩
 ·unfold noneV fn
  split <;> omega
 ·unfold b2 noneV;have e : ((if n = 65535 then (-1 : Int) else (n : Int)) % 65536).toNat = n := by split <;> omega
  rw [e];exact h4
theorem flag_snd (hq : Sb q) (h : Ok (flagD q s).2) : Ok s ∧ ∃ b : Bool, flagD q s = (b, fw s 1) ∧ Ah q s (bf b) := by
 obtain ⟨h1, h2, h3⟩ := form_snd (show Ok (formD q (decide ((takeD q 1 s).1 ≤ 1)) s.pos (takeD q 1 s).2) from h);obtain ⟨h4, n, h5, h6, h7⟩ := byte_snd hq h3;refine ⟨h4, decide (n = 1), ?_, ?_⟩
 ·unfold flagD;rw [h2, h5]
 ·rw [h5] at h1;have h8 : n ≤ 1 := of_decide_eq_true h1;unfold bf;have e : (if decide (n = 1) = true then (1 : Int) else 0) = (n : Int) := by
   by_cases e : n = 1
   ·subst e; rfl
   ·rw [if_neg (by simp [e])]; omega
  rw [e];exact h7
theorem many_snd (hq : Sb q) (h : Ok (manyD q s).2) : Ok s ∧ ∃ n : Nat, manyD q s = (n, fw s 8) ∧ n ≤ 65535 ∧ Ah q s (manyB n) := by
 obtain ⟨h1, h2, h3⟩ := zeros_snd hq (show Ok (zerosD q 6 (takeD q 2 s).2) from h);obtain ⟨h4, n, h5, h6, h7⟩ := half_snd hq h1;rw [h5] at h2 h3;refine ⟨h4, n, ?_, h6, h7.app (by rw [b2_len]; exact h3)⟩;unfold manyD;rw [h5, h2, fw_fw]
theorem pad_snd (h : Ok (padD q 8 s)) : Ok s ∧ padD q 8 s = fw s (gapN s.pos 8) ∧ Ah q s (bz (gapN s.pos 8)) := by
 unfold padD at h ⊢
 by_cases h1 : s.rw = 0
 ·by_cases h2 : s.pos + gapN s.pos 8 ≤ q.Z.length
  ·by_cases h3 : allZ ((q.Z.drop s.pos).take (gapN s.pos 8)) = true
   ·rw [if_pos h1, if_pos h2, if_pos h3] at h ⊢;have hl : ((q.Z.drop s.pos).take (gapN s.pos 8)).length = gapN s.pos 8 := by rw [List.length_take, List.length_drop]; omega
    have e := allZ_eq h3;rw [hl] at e;refine ⟨⟨h.1, h1⟩, by rw [fw, h1], h1, by rw [bz_len]; exact h2, q.Z.drop (s.pos + gapN s.pos 8), ?_⟩;rw [← e, ← List.drop_drop, List.take_append_drop]
   ·rw [if_pos h1, if_pos h2, if_neg h3] at h;exact absurd h.2 (show ¬ (5 : Int) = 0 by decide)
  ·rw [if_pos h1, if_neg h2] at h;exact absurd h.2 (show ¬ (10 : Int) = 0 by decide)
 ·rw [if_neg h1] at h;exact absurd h.2 h1
theorem bts_mkS {l : List Nat} (h : ∀ z ∈ l, z < 256) : bts (mkS l) = l := by
 unfold bts mkS;rw [List.map_map]
 conv => rhs; rw [← List.map_id l]
 refine List.map_congr_left (fun z hz => ?_);simp [Nat.mod_eq_of_lt (h z hz)]
theorem mkS_size (l : List Nat) : (mkS l).size = l.length := by
 unfold mkS;simp [ByteArray.size]
theorem text_snd (hq : Sb q) {a : Nat} (hp : s.pos % 8 = a % 8) (h : Ok (textD q s).2) : Ok s ∧ ∃ t, textD q s = (t, fw s (textB a t).length) ∧ t.size ≤ 1048576 ∧ Ah q s (textB a t) := by
 obtain ⟨h1, h2, h3⟩ := pad_snd (show Ok (padD q 8 (bytesD q (takeD q 4 s).1 (formD q (decide ((takeD q 4 s).1 ≤ 1048576) && decide ((takeD q 4 s).1 ≤ q.Z.length - (takeD q 4 s).2.pos)) s.pos (takeD q 4 s).2)).2) from h);obtain ⟨h4, l, h5, h6, h7, h8⟩ := bytes_snd hq h1;obtain ⟨h9, h10, h11⟩ := form_snd h4;obtain ⟨k1, n, k2, k3, k4⟩ := word_snd hq h11;rw [k2] at h5 h6 h7 h9 h10 h2 h3;rw [h10] at h5 h7 h2 h3;dsimp only at h5 h6 h7 h2 h3;rw [h5] at h2 h3;dsimp only at h2 h3;rw [Bool.and_eq_true] at h9;have hn : n ≤ 1048576 := of_decide_eq_true h9.1;have hg : gapN (fw (fw s 4) n).pos 8 = upN (a + 4 + n) 8 - (a + 4 + n) := (gap_up (by show (s.pos + 4 + n) % 8 = _; omega)).symm;rw [hg] at h2 h3;have hA : Ah q s (textB a (mkS l)) := by
  unfold textB;rw [bts_mkS h8, mkS_size, h6];refine k4.app ?_;rw [b4_len];refine h7.app ?_;rw [h6];exact h3
 refine ⟨k1, mkS l, ?_, by rw [mkS_size, h6]; exact hn, hA⟩;have hE : textD q s = (mkS (bytesD q (takeD q 4 s).1 (formD q (decide ((takeD q 4 s).1 ≤ 1048576) && decide ((takeD q 4 s).1 ≤ q.Z.length - (takeD q 4 s).2.pos)) s.pos (takeD q 4 s).2)).1, padD q 8 (bytesD q (takeD q 4 s).1 (formD q (decide ((takeD q 4 s).1 ≤ 1048576) && decide ((takeD q 4 s).1 ≤ q.Z.length - (takeD q 4 s).2.pos)) s.pos (takeD q 4 s).2)).2) := rfl;rw [hE, k2];dsimp only;rw [h10, h5];dsimp only;rw [h2, fw_fw, fw_fw];unfold textB;rw [List.length_append, List.length_append, b4_len, bts_len, bz_len, mkS_size, h6]
 all_goals exact Prod.ext rfl (by show fw s _ = fw s _; congr 1; omega)
theorem span_snd (hq : Sb q) (h : Ok (spanD q s).2) : Ok s ∧ ∃ r, spanD q s = (r, fw s (rangeB r).length) ∧ rgOk r ∧ Ah q s (rangeB r) := by
 obtain ⟨h1, y, h2, h3, h4⟩ := take_snd hq (show Ok (takeD q 8 (takeD q 8 s).2).2 from h);obtain ⟨k1, x, k2, k3, k4⟩ := take_snd hq h1;rw [k2] at h2 h4;refine ⟨k1, (x, y), ?_, ⟨by omega, by omega⟩, ?_⟩
 ·rw [rangeB_len];simp only [spanD, k2, h2];simp only [fw_fw]
 ·unfold rangeB;refine k4.app ?_;rw [Pl.le_length];exact h4
theorem ten_snd (hq : Sb q) (h : Ok (tenD q s).2) : Ok s ∧ ∃ x : Tn, tenD q s = (x, fw s (tenB x).length) ∧ (f1 x.cpu ∧ f1 x.rule ∧ f1 x.vec ∧ fn x.to ∧ fn x.root) ∧ Ah q s (tenB x) := by
 obtain ⟨g5, n6, e6, o6, a6⟩ := none_snd hq (show Ok (noneD q (noneD q (takeD q 1 (takeD q 1 (flagD q (takeD q 1 s).2).2).2).2).2).2 from h);obtain ⟨g4, n5, e5, o5, a5⟩ := none_snd hq g5;obtain ⟨g3, n4, e4, o4, a4⟩ := byte_snd hq g4;obtain ⟨g2, n3, e3, o3, a3⟩ := byte_snd hq g3;obtain ⟨g1, n2, e2, a2⟩ := flag_snd hq g2;obtain ⟨g0, n1, e1, o1, a1⟩ := byte_snd hq g1;rw [e1] at e2 a2 e3 a3 e4 a4 e5 a5 e6 a6
 try dsimp only at e2 a2 e3 a3 e4 a4 e5 a5 e6 a6
 rw [e2] at e3 a3 e4 a4 e5 a5 e6 a6
 try dsimp only at e3 a3 e4 a4 e5 a5 e6 a6
 rw [e3] at e4 a4 e5 a5 e6 a6
 try dsimp only at e4 a4 e5 a5 e6 a6
 rw [e4] at e5 a5 e6 a6
 try dsimp only at e5 a5 e6 a6
 rw [e5] at e6 a6
 try dsimp only at e6 a6
 refine ⟨g0, ⟨n1, n6, n2, n3, n5, n4⟩, ?_, ⟨f1n o1, f1n o3, f1n o4, o5, o6⟩, ?_⟩
 ·rw [tenB_len];simp only [tenD, e1, e2, e3, e4, e5, e6];simp only [fw_fw]
 ·unfold tenB;exact a1.app (by rw [b1_len]; exact a2.app (by rw [bf_len]; exact a3.app (by rw [b1_len]; exact a4.app (by rw [b1_len]; exact a5.app (by rw [b2_len]; exact a6)))))
theorem port_snd (hq : Sb q) (h : Ok (portD q s).2) : Ok s ∧ ∃ x : Int, portD q s = (x, fw s (portB x).length) ∧ fn x ∧ Ah q s (portB x) := by
 obtain ⟨g1, e2, a2⟩ := zeros_snd hq (show Ok (zerosD q 6 (noneD q s).2) from h);obtain ⟨g0, n1, e1, o1, a1⟩ := none_snd hq g1;rw [e1] at e2 a2
 try dsimp only at e2 a2
 refine ⟨g0, n1, ?_, o1, ?_⟩
 ·rw [portB_len];simp only [portD, e1, e2];simp only [fw_fw]
 ·unfold portB;exact a1.app (by rw [b2_len]; exact a2)
theorem ch_snd (hq : Sb q) (h : Ok (chD q s).2) : Ok s ∧ ∃ x : Lk, chD q s = (x, fw s (chB x).length) ∧ (fn x.fr ∧ fn x.to ∧ f1 x.eff ∧ f1 x.vec ∧ x.msk = false) ∧ Ah q s (chB x) := by
 obtain ⟨g4, e5, a5⟩ := zeros_snd hq (show Ok (zerosD q 2 (takeD q 1 (takeD q 1 (noneD q (noneD q s).2).2).2).2) from h);obtain ⟨g3, n4, e4, o4, a4⟩ := byte_snd hq g4;obtain ⟨g2, n3, e3, o3, a3⟩ := byte_snd hq g3;obtain ⟨g1, n2, e2, o2, a2⟩ := none_snd hq g2;obtain ⟨g0, n1, e1, o1, a1⟩ := none_snd hq g1;rw [e1] at e2 a2 e3 a3 e4 a4 e5 a5
 try dsimp only at e2 a2 e3 a3 e4 a4 e5 a5
 rw [e2] at e3 a3 e4 a4 e5 a5
 try dsimp only at e3 a3 e4 a4 e5 a5
 rw [e3] at e4 a4 e5 a5
 try dsimp only at e4 a4 e5 a5
 rw [e4] at e5 a5
 try dsimp only at e5 a5
 refine ⟨g0, ⟨n1, n2, n3, n4, false⟩, ?_, ⟨o1, o2, f1n o3, f1n o4, rfl⟩, ?_⟩
 ·rw [chB_len];simp only [chD, e1, e2, e3, e4, e5];simp only [fw_fw]
 ·unfold chB;exact a1.app (by rw [b2_len]; exact a2.app (by rw [b2_len]; exact a3.app (by rw [b1_len]; exact a4.app (by rw [b1_len]; exact a5))))
theorem iq_snd (hq : Sb q) (h : Ok (iqD q s).2) : Ok s ∧ ∃ x : Lk, iqD q s = (x, fw s (iqB x).length) ∧ (fn x.fr ∧ fn x.to ∧ x.eff = 1 ∧ f1 x.vec) ∧ Ah q s (iqB x) := by
 obtain ⟨g4, e5, a5⟩ := zeros_snd hq (show Ok (zerosD q 2 (flagD q (takeD q 1 (noneD q (noneD q s).2).2).2).2) from h);obtain ⟨g3, n4, e4, a4⟩ := flag_snd hq g4;obtain ⟨g2, n3, e3, o3, a3⟩ := byte_snd hq g3;obtain ⟨g1, n2, e2, o2, a2⟩ := none_snd hq g2;obtain ⟨g0, n1, e1, o1, a1⟩ := none_snd hq g1;rw [e1] at e2 a2 e3 a3 e4 a4 e5 a5
 try dsimp only at e2 a2 e3 a3 e4 a4 e5 a5
 rw [e2] at e3 a3 e4 a4 e5 a5
 try dsimp only at e3 a3 e4 a4 e5 a5
 rw [e3] at e4 a4 e5 a5
 try dsimp only at e4 a4 e5 a5
 rw [e4] at e5 a5
 try dsimp only at e5 a5
 refine ⟨g0, ⟨n1, n2, 1, n3, n4⟩, ?_, ⟨o1, o2, rfl, f1n o3⟩, ?_⟩
 ·rw [iqB_len];simp only [iqD, e1, e2, e3, e4, e5];simp only [fw_fw]
 ·unfold iqB;exact a1.app (by rw [b2_len]; exact a2.app (by rw [b2_len]; exact a3.app (by rw [b1_len]; exact a4.app (by rw [bf_len]; exact a5))))
theorem st_snd (hq : Sb q) (h : Ok (stD q s).2) : Ok s ∧ ∃ x : Int × Int, stD q s = (x, fw s (stB x).length) ∧ (fn x.1 ∧ f4 x.2) ∧ Ah q s (stB x) := by
 obtain ⟨g2, n3, e3, o3, a3⟩ := word_snd hq (show Ok (takeD q 4 (zerosD q 2 (noneD q s).2)).2 from h);obtain ⟨g1, e2, a2⟩ := zeros_snd hq g2;obtain ⟨g0, n1, e1, o1, a1⟩ := none_snd hq g1;rw [e1] at e2 a2 e3 a3
 try dsimp only at e2 a2 e3 a3
 rw [e2] at e3 a3
 try dsimp only at e3 a3
 refine ⟨g0, (n1, (n3 : Int)), ?_, ⟨o1, f4n o3⟩, ?_⟩
 ·rw [stB_len];simp only [stD, e1, e2, e3];simp only [fw_fw]
 ·unfold stB;exact a1.app (by rw [b2_len]; exact a2.app (by rw [bz_len]; exact a3))
theorem gd_snd (hq : Sb q) {a : Nat} (hp : s.pos % 8 = a % 8) (h : Ok (gdD q s).2) : Ok s ∧ ∃ x : Gd, gdD q s = (x, fw s (gdB a x).length) ∧ (gdOk x ∧ x.txt.size ≤ 1048576) ∧ Ah q s (gdB a x) := by
 have h9 : Ok (textD q (zerosD q 3 (takeD q 1 (takeD q 8 (takeD q 8 s).2).2).2)).2 := h;have hpos : ∀ k t, Ok (takeD q k t).2 → (takeD q k t).2.pos = t.pos + k := fun k t h => by
  obtain ⟨_, n, e, _⟩ := take_snd hq h;rw [e]
  rfl
 have hK : ∀ t, Ok (textD q t).2 → Ok t := fun t h => by
  exact (text_snd hq (a := t.pos) rfl h).1
 have g4 := hK _ h9;obtain ⟨g3, e4, a4⟩ := zeros_snd hq g4;obtain ⟨g2, n3, e3, o3, a3⟩ := byte_snd hq g3;obtain ⟨g1, n2, e2, o2, a2⟩ := take_snd hq g2;obtain ⟨g0, n1, e1, o1, a1⟩ := take_snd hq g1;rw [e1] at e2 a2 e3 a3 e4 a4 h9
 try dsimp only at e2 a2 e3 a3 e4 a4 h9
 rw [e2] at e3 a3 e4 a4 h9
 try dsimp only at e3 a3 e4 a4 h9
 rw [e3] at e4 a4 h9
 try dsimp only at e4 a4 h9
 rw [e4] at h9;obtain ⟨_, t, e5, o5, a5⟩ := text_snd hq (a := a + 20) (by show (s.pos + 8 + 8 + 1 + 3) % 8 = _; omega) h9;refine ⟨g0, ⟨n1, n2, n3, t⟩, ?_, ⟨⟨by show n1 ≤ _; omega, by show n2 ≤ _; omega, o3, by show t.size ≤ _; omega⟩, o5⟩, ?_⟩
 ·simp only [gdD, e1, e2, e3, e4, e5];simp only [fw_fw];unfold gdB;rw [List.length_append, List.length_append, List.length_append, List.length_append, Pl.le_length, Pl.le_length, b1_len, bz_len];refine Prod.ext rfl ?_
  show fw s _ = fw s _
  congr 1
  try dsimp only
  omega
 ·unfold gdB;exact a1.app (by rw [Pl.le_length]; exact a2.app (by rw [Pl.le_length]; exact a3.app (by rw [b1_len]; exact a4.app (by rw [bz_len]; exact a5))))
theorem list_snd {γ : Type} {f : Nat → γ → List Nat} {ok : γ → Prop} {one : D → γ × D} {a : Nat} (ho : ∀ (b : Nat) (t : D), t.pos % 8 = b % 8 → Ok (one t).2 → Ok t ∧ ∃ x, one t = (x, fw t (f b x).length) ∧ ok x ∧ Ah q t (f b x)) : ∀ n, Ok (listD one n s).2 → Ok s ∧ (s.pos % 8 = a % 8 → s.pos ≤ q.Z.length → ∃ xs, listD one n s = (xs, fw s (layL f a xs).length) ∧ xs.length = n ∧ (∀ x ∈ xs, ok x) ∧ Ah q s (layL f a xs))
 | 0, h => by
  have h0 : Ok s := h;refine ⟨h0, fun hp hle => ⟨[], ?_, rfl, (fun _ h => by cases h), h0.2, ?_, q.Z.drop s.pos, rfl⟩⟩
  ·show ([], s) = (([] : List γ), fw s 0)
   rw [fw_zero h0.2]
  ·exact hle
 | n + 1, h => by
  rw [listD] at h;have hg : goD (listD one n s).2 = true := by
   by_cases hg : goD (listD one n s).2 = true
   ·exact hg
   ·rw [stepL, if_neg hg] at h;exact h.is
  rw [stepL, if_pos hg] at h;obtain ⟨h0, hr⟩ := list_snd (a := a) ho n (Ok.go hg);refine ⟨h0, fun hp hle => ?_⟩;obtain ⟨xs, e1, hl, hx, ha⟩ := hr hp hle;rw [e1] at h;obtain ⟨_, x, e2, ox, ax⟩ := ho (a + (layL f a xs).length) _ (by show (s.pos + _) % 8 = _; omega) h;refine ⟨xs ++ [x], ?_, by rw [List.length_append, hl]; rfl, fun y hy => ?_, ?_⟩
  ·rw [listD, stepL, if_pos hg, e1];dsimp only;rw [e2, layL_snoc, List.length_append, fw_fw]
  ·rcases List.mem_append.1 hy with h | h
   ·exact hx y h
   ·rw [List.mem_singleton.1 h]; exact ox
  ·rw [layL_snoc];exact ha.app ax
theorem Ah.pos {l : List Nat} (h : Ah q s l) : (fw s l.length).pos ≤ q.Z.length := h.le
theorem lane_snd (hq : Sb q) (h : Ok (laneD q s).2) : Ok s ∧ ∃ l, laneD q s = (l, fw s (laneB l).length) ∧ (l.length ≤ 65535 ∧ ∀ x ∈ l, fn x.1 ∧ f4 x.2) ∧ Ah q s (laneB l) := by
 have h9 : Ok (listD (stD q) (manyD q s).1 (manyD q s).2).2 := h;obtain ⟨g1, hr⟩ := list_snd (a := (manyD q s).2.pos) (f := fun _ => stB) (fun b t _ h => st_snd hq h) _ h9;obtain ⟨g0, n, e1, o1, a1⟩ := many_snd hq g1;rw [e1] at hr;obtain ⟨xs, e2, hl, hx, a2⟩ := hr rfl (by have := a1.pos; rw [manyB_len] at this; exact this)
 try dsimp only at e2 hl a2
 subst hl;rw [layC_any stB xs _ 0] at e2 a2;refine ⟨g0, xs, ?_, ⟨o1, hx⟩, ?_⟩
 ·simp only [laneD, e1, e2];simp only [fw_fw];unfold laneB;rw [List.length_append, manyB_len]
 ·unfold laneB;exact a1.app (by rw [manyB_len]; exact a2)
theorem plan_snd (hq : Sb q) {N : Nat} (h : Ok (planD q N s).2) : Ok s ∧ ∃ x, planD q N s = (x, fw s (planB x).length) ∧ (x.lanes.length = N ∧ f4 x.maj ∧ ∀ l ∈ x.lanes, l.length ≤ 65535 ∧ ∀ y ∈ l, fn y.1 ∧ f4 y.2) ∧ Ah q s (planB x) := by
 have h9 : Ok (listD (laneD q) N (zerosD q 4 (takeD q 4 s).2)).2 := h;obtain ⟨g2, hr⟩ := list_snd (a := (zerosD q 4 (takeD q 4 s).2).pos) (f := fun _ => laneB) (fun b t _ h => lane_snd hq h) _ h9;obtain ⟨g1, e2, a2⟩ := zeros_snd hq g2;obtain ⟨g0, n, e1, o1, a1⟩ := word_snd hq g1;rw [e2, e1] at hr;rw [e1] at e2 a2;obtain ⟨xs, e3, hl, hx, a3⟩ := hr rfl (by have := a2.pos; rw [bz_len] at this; exact this)
 try dsimp only at e2 e3 hl a2 a3
 rw [layC_any laneB xs _ 0] at e3 a3;refine ⟨g0, ⟨(n : Int), xs⟩, ?_, ⟨hl, f4n o1, hx⟩, ?_⟩
 ·simp only [planD, e1, e2, e3];simp only [fw_fw];unfold planB;rw [List.length_append, List.length_append, b4_len, bz_len];refine Prod.ext rfl ?_
  show fw s _ = fw s _
  congr 1
  try dsimp only
  omega
 ·unfold planB;exact a1.app (by rw [b4_len]; exact a2.app (by rw [bz_len]; exact a3))
end
end Dc
end Go.Proofs.YtmfkggngjeolcaaGreatDoor
namespace Go.Proofs.YtmfkggngjeolcaaGreatDoor
open Bn Dc
namespace Dc
theorem field_iff (w : Int) (b : Bool) : fieldF w b = 0 ↔ w = 0 ∧ b = true := by
 unfold fieldF
 cases b <;> simp
theorem ask_iff (w : Int) (b : Bool) {n : Int} (hn : n ≠ 0) : askF w b n = 0 ↔ w = 0 ∧ b = true := by
 constructor
 ·exact ask_zero hn
 ·rintro ⟨rfl, rfl⟩;unfold askF;simp
theorem byte1 (k : Int) (s : S) : (byteS k s).1 = s.1 ++ b1 k := rfl
theorem half1 (k : Int) (s : S) : (halfS k s).1 = s.1 ++ b2 k := rfl
theorem none1 (k : Int) (s : S) : (noneS k s).1 = s.1 ++ b2 k := rfl
theorem word1 (k : Int) (s : S) : (wordS k s).1 = s.1 ++ b4 k := rfl
theorem long1 (k : Nat) (s : S) : (longS k s).1 = s.1 ++ Pl.le 8 k := rfl
theorem flag1 (k : Bool) (s : S) : (flagS k s).1 = s.1 ++ bf k := rfl
theorem zeros1 (k : Nat) (s : S) : (zerosS k s).1 = s.1 ++ bz k := rfl
theorem field1 (k : Bool) (s : S) : (fieldS k s).1 = s.1 := rfl
theorem ask1 (k : Bool) (n : Int) (s : S) : (askS k n s).1 = s.1 := rfl
theorem bytes1 (k : List Nat) (s : S) : (bytesS k s).1 = s.1 ++ k := rfl
theorem many1 (n : Nat) (s : S) : (manyS n s).1 = s.1 ++ manyB n := by rw [manyS, zeros1, half1, manyB, List.append_assoc]
theorem fit_iff (lo hi k : Int) : fitB lo hi k = true ↔ lo ≤ k ∧ k ≤ hi := by simp [fitB]
theorem byte2 (k : Int) (s : S) : (byteS k s).2 = 0 ↔ s.2 = 0 ∧ f1 k := (field_iff _ _).trans (and_congr Iff.rfl (fit_iff 0 255 k))
theorem half2 (k : Int) (s : S) : (halfS k s).2 = 0 ↔ s.2 = 0 ∧ f2 k := (field_iff _ _).trans (and_congr Iff.rfl (fit_iff 0 65535 k))
theorem none2 (k : Int) (s : S) : (noneS k s).2 = 0 ↔ s.2 = 0 ∧ fn k := (field_iff _ _).trans (and_congr Iff.rfl (by simp [noneB, fn]))
theorem word2 (k : Int) (s : S) : (wordS k s).2 = 0 ↔ s.2 = 0 ∧ f4 k := (field_iff _ _).trans (and_congr Iff.rfl (fit_iff 0 4294967295 k))
theorem long2 (k : Nat) (s : S) : (longS k s).2 = s.2 := rfl
theorem flag2 (k : Bool) (s : S) : (flagS k s).2 = 0 ↔ s.2 = 0 := by
 rw [flagS, byte2];exact ⟨fun h => h.1, fun h => ⟨h, by cases k <;> (unfold f1; simp)⟩⟩
theorem zeros2 (k : Nat) (s : S) : (zerosS k s).2 = s.2 := rfl
theorem field2 (k : Bool) (s : S) : (fieldS k s).2 = 0 ↔ s.2 = 0 ∧ k = true := field_iff _ _
theorem bytes2 (k : List Nat) (s : S) : (bytesS k s).2 = s.2 := rfl
theorem many2 (n : Nat) (s : S) : (manyS n s).2 = 0 ↔ s.2 = 0 ∧ f2 (n : Int) := half2 _ _
structure Lay {α : Type} (f : α → S → S) (g : Nat → α → List Nat) (fit : α → Prop) (x : α) : Prop where
 bs : ∀ s, (f x s).1 = s.1 ++ g s.1.length x
 ok : ∀ s, (f x s).2 = 0 ↔ s.2 = 0 ∧ fit x
theorem Lay.each {α : Type} {f : α → S → S} {g : Nat → α → List Nat} {fit : α → Prop} (h : ∀ x, Lay f g fit x) : ∀ (xs : List α) (s : S), (eachS f xs s).1 = s.1 ++ layL g s.1.length xs ∧ ((eachS f xs s).2 = 0 ↔ s.2 = 0 ∧ ∀ x ∈ xs, fit x)
 | [], s => ⟨by simp [eachS, layL], by simp [eachS]⟩
 | x :: xs, s => by
  obtain ⟨h1, h2⟩ := Lay.each h xs (f x s);refine ⟨?_, ?_⟩
  ·rw [eachS, h1, (h x).bs, layL, List.append_assoc, List.length_append]
  ·rw [eachS, h2, (h x).ok];simp only [List.mem_cons, forall_eq_or_imp, and_assoc]
def tnF (x : Tn) : Prop := f1 x.cpu ∧ f1 x.rule ∧ f1 x.vec ∧ fn x.to ∧ fn x.root
def chF (x : Lk) : Prop := fn x.fr ∧ fn x.to ∧ f1 x.eff ∧ f1 x.vec ∧ x.msk = false
def iqF (x : Lk) : Prop := fn x.fr ∧ fn x.to ∧ x.eff = 1 ∧ f1 x.vec
def stF (x : Int × Int) : Prop := fn x.1 ∧ f4 x.2
def gdF (x : Gd) : Prop := f1 (x.fill : Int) ∧ x.txt.size ≤ 1048576
def laneF (l : List (Int × Int)) : Prop := f2 (l.length : Int) ∧ ∀ y ∈ l, stF y
def planF (n : Nat) (p : Sc) : Prop := p.lanes.length = n ∧ f4 p.maj ∧ ∀ l ∈ p.lanes, laneF l
theorem range_lay (x : Rg) : Lay rangeS (fun _ => rangeB) (fun _ => True) x := ⟨fun s => by simp only [rangeS, long1, rangeB, List.append_assoc], fun s => by simp only [rangeS, long2, and_true]⟩
theorem ten_lay (x : Tn) : Lay tenS (fun _ => tenB) tnF x := ⟨fun s => by simp only [tenS, none1, byte1, flag1, tenB, List.append_assoc], fun s => by simp only [tenS, none2, byte2, flag2, tnF, and_assoc]⟩
theorem port_lay (x : Int) : Lay portS (fun _ => portB) fn x := ⟨fun s => by simp only [portS, none1, zeros1, portB, List.append_assoc], fun s => by simp only [portS, none2, zeros2]⟩
theorem ch_lay (x : Lk) : Lay chS (fun _ => chB) chF x := ⟨fun s => by simp only [chS, none1, zeros1, byte1, field1, chB, List.append_assoc], fun s => by
 simp only [chS, none2, zeros2, byte2, field2, chF, and_assoc]
 cases x.msk <;> simp⟩
theorem iq_lay (x : Lk) : Lay iqS (fun _ => iqB) iqF x := ⟨fun s => by simp only [iqS, none1, zeros1, byte1, flag1, field1, iqB, List.append_assoc], fun s => by
 simp only [iqS, none2, zeros2, byte2, flag2, field2, iqF, and_assoc, decide_eq_true_eq]
 constructor
 ·rintro ⟨a, b, c, d, e⟩; exact ⟨a, c, d, b, e⟩
 ·rintro ⟨a, b, c, d, e⟩; exact ⟨a, d, b, c, e⟩⟩
theorem st_lay (x : Int × Int) : Lay stS (fun _ => stB) stF x := ⟨fun s => by simp only [stS, none1, zeros1, word1, stB, List.append_assoc], fun s => by simp only [stS, none2, zeros2, word2, stF, and_assoc]⟩
theorem text_lay (t : ByteArray) : Lay textS textB (fun t => t.size ≤ 1048576) t := ⟨fun s => by
 have e : (bytesS (bts t) (wordS (t.size : Int) (askS (decide (t.size ≤ 1048576)) 3 s))).1.length = s.1.length + 4 + t.size := by
  rw [bytes1, word1, ask1, List.length_append, List.length_append, b4_len, bts_len]
 rw [textS, padS, e];simp only [zeros1, bytes1, word1, ask1, textB, List.append_assoc], fun s => by
 rw [textS, padS, zeros2, bytes2, word2, askS, ask_iff _ _ (by decide), decide_eq_true_eq]
 constructor
 ·rintro ⟨h, _⟩; exact h
 ·rintro ⟨h, k⟩; exact ⟨⟨h, k⟩, by unfold f4; omega⟩⟩
theorem gd_lay (x : Gd) : Lay gdS gdB gdF x := ⟨fun s => by
 have e : (zerosS 3 (byteS (x.fill : Int) (longS x.sz (longS x.ad s)))).1.length = s.1.length + 20 := by
  simp only [zeros1, byte1, long1, List.length_append, bz_len, b1_len, Pl.le_length]
 rw [gdS, (text_lay x.txt).bs, e];simp only [zeros1, byte1, long1, gdB, List.append_assoc], fun s => by
 rw [gdS, (text_lay x.txt).ok];simp only [zeros2, byte2, long2, gdF, and_assoc]⟩
theorem lane_lay (l : List (Int × Int)) : Lay laneS (fun _ => laneB) laneF l := ⟨fun s => by
 rw [laneS, (Lay.each st_lay l _).1, many1, layC_any stB l _ 0, laneB, List.append_assoc], fun s => by
 rw [laneS, (Lay.each st_lay l _).2, many2, and_assoc]
 rfl⟩
theorem plan_lay (n : Nat) (p : Sc) : Lay (planS n) (fun _ => planB) (planF n) p := ⟨fun s => by
 rw [planS, (Lay.each lane_lay p.lanes _).1, zeros1, word1, field1, layC_any laneB p.lanes _ 0, planB];simp only [List.append_assoc], fun s => by
 rw [planS, (Lay.each lane_lay p.lanes _).2];simp only [zeros2, word2, field2, planF, and_assoc, decide_eq_true_eq]⟩
def tabB (f : Nat → Nat) : List Nat := tb f 512
theorem tab_lay (f : Nat → Nat) : Lay tabS (fun _ => tabB) (fun _ => True) f := ⟨fun s => by rw [tabS, bytes1, tabB], fun s => by rw [tabS, bytes2, and_true]⟩
theorem gd_mod {a b : Nat} (h : a % 8 = b % 8) (x : Gd) : gdB a x = gdB b x := by
 unfold gdB textB upN;have e : ∀ n, (if (a + 20 + 4 + n) % 8 = 0 then a + 20 + 4 + n else a + 20 + 4 + n + (8 - (a + 20 + 4 + n) % 8)) - (a + 20 + 4 + n) = (if (b + 20 + 4 + n) % 8 = 0 then b + 20 + 4 + n else b + 20 + 4 + n + (8 - (b + 20 + 4 + n) % 8)) - (b + 20 + 4 + n) := fun n => by
  split <;> split <;> omega
 rw [e]
theorem gds_mod : ∀ (xs : List Gd) {a b : Nat} (h : a % 8 = b % 8), layL gdB a xs = layL gdB b xs
 | [], _, _, _ => rfl
 | x :: xs, a, b, h => by
  rw [layL, layL, gd_mod h x, gds_mod xs (a := a + (gdB b x).length) (b := b + (gdB b x).length) (by omega)]
def secB (I : Im) : Nat → List Nat
 | 0 => bz 160
 | 1 => b2 (I.rams.length : Int) ++ (b2 (I.devs.length : Int) ++ (bz 4 ++ (layL (fun _ => rangeB) 0 I.rams ++ layL (fun _ => rangeB) 0 I.devs)))
 | 2 => manyB I.subs.length ++ layL (fun _ => tenB) 0 I.subs
 | 3 => manyB I.ports.length ++ layL (fun _ => portB) 0 I.ports
 | 4 => manyB I.regs.length ++ layL gdB 0 I.regs
 | 5 => manyB I.chs.length ++ layL (fun _ => chB) 0 I.chs
 | 6 => manyB I.irqs.length ++ layL (fun _ => iqB) 0 I.irqs
 | 7 => b2 (I.plans.length : Int) ++ (b2 (lanesN I : Int) ++ (b2 I.master ++ (b2 I.start ++ layL (fun _ => planB) 0 I.plans)))
 | _ => layL (fun _ => tabB) 0 I.tabs
def fitK (I : Im) : Nat → Prop
 | 0 => I.base % 4096 = 0
 | 1 => f2 (I.rams.length : Int) ∧ f2 (I.devs.length : Int)
 | 2 => f2 (I.subs.length : Int) ∧ ∀ x ∈ I.subs, tnF x
 | 3 => I.ports.length = I.devs.length ∧ f2 (I.ports.length : Int) ∧ ∀ x ∈ I.ports, fn x
 | 4 => f2 (I.regs.length : Int) ∧ ∀ x ∈ I.regs, gdF x
 | 5 => f2 (I.chs.length : Int) ∧ ∀ x ∈ I.chs, chF x
 | 6 => f2 (I.irqs.length : Int) ∧ ∀ x ∈ I.irqs, iqF x
 | 7 => f2 (I.plans.length : Int) ∧ f2 (lanesN I : Int) ∧ fn I.master ∧ f2 I.start ∧ ∀ x ∈ I.plans, planF (lanesN I) x
 | _ => True
theorem sec_lay (I : Im) (k : Nat) (s : S) (h8 : s.1.length % 8 = 0) : (secS I k s).1 = s.1 ++ secB I k ∧ ((secS I k s).2 = 0 ↔ s.2 = 0 ∧ fitK I k) := by
 match k with
 | 0 => exact ⟨rfl, by show (roomS I s).2 = 0 ↔ _; rw [roomS, zeros2, field2, decide_eq_true_eq]; rfl⟩
 | 1 =>
  refine ⟨?_, ?_⟩
  ·show (busS I s).1 = _
   rw [busS, (Lay.each range_lay I.devs _).1, (Lay.each range_lay I.rams _).1, layC_any rangeB I.devs _ 0, layC_any rangeB I.rams _ 0, secB];simp only [zeros1, half1, List.append_assoc]
  ·show (busS I s).2 = 0 ↔ _
   rw [busS, (Lay.each range_lay I.devs _).2, (Lay.each range_lay I.rams _).2, fitK];simp only [zeros2, half2, and_assoc, implies_true, and_true]
 | 2 =>
  refine ⟨?_, ?_⟩
  ·show (subsS I s).1 = _
   rw [subsS, (Lay.each ten_lay I.subs _).1, layC_any tenB I.subs _ 0, secB, many1, List.append_assoc]
  ·show (subsS I s).2 = 0 ↔ _
   rw [subsS, (Lay.each ten_lay I.subs _).2, fitK, many2, and_assoc]
 | 3 =>
  refine ⟨?_, ?_⟩
  ·show (portsS I s).1 = _
   rw [portsS, (Lay.each port_lay I.ports _).1, layC_any portB I.ports _ 0, secB, many1, field1, List.append_assoc]
  ·show (portsS I s).2 = 0 ↔ _
   rw [portsS, (Lay.each port_lay I.ports _).2, fitK, many2, field2, and_assoc, and_assoc, decide_eq_true_eq]
 | 4 =>
  refine ⟨?_, ?_⟩
  ·show (regsS I s).1 = _
   rw [regsS, (Lay.each gd_lay I.regs _).1, gds_mod I.regs (b := 0) (by rw [many1, List.length_append, manyB_len]; omega), secB, many1, List.append_assoc]
  ·show (regsS I s).2 = 0 ↔ _
   rw [regsS, (Lay.each gd_lay I.regs _).2, fitK, many2, and_assoc]
 | 5 =>
  refine ⟨?_, ?_⟩
  ·show (chsS I s).1 = _
   rw [chsS, (Lay.each ch_lay I.chs _).1, layC_any chB I.chs _ 0, secB, many1, List.append_assoc]
  ·show (chsS I s).2 = 0 ↔ _
   rw [chsS, (Lay.each ch_lay I.chs _).2, fitK, many2, and_assoc]
 | 6 =>
  refine ⟨?_, ?_⟩
  ·show (irqsS I s).1 = _
   rw [irqsS, (Lay.each iq_lay I.irqs _).1, layC_any iqB I.irqs _ 0, secB, many1, List.append_assoc]
  ·show (irqsS I s).2 = 0 ↔ _
   rw [irqsS, (Lay.each iq_lay I.irqs _).2, fitK, many2, and_assoc]
 | 7 =>
  refine ⟨?_, ?_⟩
  ·show (plansS I s).1 = _
   rw [plansS, (Lay.each (plan_lay (lanesN I)) I.plans _).1, layC_any planB I.plans _ 0, secB];simp only [half1, none1, List.append_assoc]
  ·show (plansS I s).2 = 0 ↔ _
   rw [plansS, (Lay.each (plan_lay (lanesN I)) I.plans _).2, fitK];simp only [half2, none2, and_assoc]
 | k + 8 =>
  refine ⟨?_, ?_⟩
  ·show (tabsS I s).1 = s.1 ++ layL (fun _ => tabB) 0 I.tabs
   rw [tabsS, (Lay.each tab_lay I.tabs _).1, layC_any tabB I.tabs _ 0]
  ·show (tabsS I s).2 = 0 ↔ s.2 = 0 ∧ True
   rw [tabsS, (Lay.each tab_lay I.tabs _).2];simp
end Dc
end Go.Proofs.YtmfkggngjeolcaaGreatDoor
