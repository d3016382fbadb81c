import Derived.Test.YtmfkggngjeolcaaGreatDoorPk35
/- Bundle: bytes that are taken are those of the image that is told. Plain. Own work. -/
namespace Go.Proofs.YtmfkggngjeolcaaGreatDoor
open Bn Dc
set_option linter.unusedVariables false
set_option linter.unusedSimpArgs false
namespace Dc
theorem beg_mod (k a : Nat) : begN k a % 8 = 0 ∧ (k = 8 → begN k a % 4096 = 0) := by
  unfold begN upN
  by_cases e : k = 8
  · rw [if_pos e]
    split <;> omega
  · rw [if_neg e]
    split <;> omega
/-- a part more -/
theorem st_next (I : Im) (k : Nat) : (stN I (k + 1)).1 = (stN I k).1 ++ (bz (fstN I k - (stN I k).1.length) ++ secB I k) ∧ ((stN I (k + 1)).2 = 0 ↔ (stN I k).2 = 0 ∧ fitK I k) := by
  have h8 : (zerosS (begN k (stN I k).1.length - (stN I k).1.length) (stN I k)).1.length % 8 = 0 := by
    rw [zeros_len]
    have := beg_le k (stN I k).1.length
    have := (beg_mod k (stN I k).1.length).1
    omega
  obtain ⟨h1, h2⟩ := sec_lay I k _ h8
  refine ⟨?_, ?_⟩
  · rw [stN, h1, zeros1, List.append_assoc]
    rfl
  · rw [stN, h2, zeros2]
theorem ask_rw (b : Bool) (no sec ad : Int) (t : D) : (askD b no sec ad t).rw = t.rw ∧ (askD b no sec ad t).pos = t.pos := by
  unfold askD
  split <;> exact ⟨rfl, rfl⟩
theorem dir_rw {E : Nat → En} {N : Nat} {s : D} : ∀ k, (dirS E N k s).rw = s.rw ∧ (dirS E N k s).pos = s.pos
  | 0 => ⟨rfl, rfl⟩
  | k + 1 => by rw [dirS]; exact ⟨(ask_rw _ _ _ _ _).1.trans (dir_rw k).1, (ask_rw _ _ _ _ _).2.trans (dir_rw k).2⟩
/-- an entry's bytes -/
def enB (x : En) : List Nat := Pl.le 2 x.a ++ (Pl.le 2 x.b ++ (Pl.le 4 x.f ++ (Pl.le 4 x.l ++ Pl.le 4 x.c)))
theorem enB_len (x : En) : (enB x).length = 16 := by simp [enB, Pl.le_length]
theorem ent_snd {q : Pt} {s : D} (hq : Sb q) (h : Ok (entD q s).2) : Ok s ∧ (entD q s).2 = fw s 16 ∧ Ah q s (enB (entD q s).1) := by
  obtain ⟨g4, v5, e5, o5, a5⟩ := take_snd hq (show Ok (takeD q 4 (takeD q 4 (takeD q 4 (takeD q 2 (takeD q 2 s).2).2).2).2).2 from h)
  obtain ⟨g3, v4, e4, o4, a4⟩ := take_snd hq g4
  obtain ⟨g2, v3, e3, o3, a3⟩ := take_snd hq g3
  obtain ⟨g1, v2, e2, o2, a2⟩ := take_snd hq g2
  obtain ⟨g0, v1, e1, o1, a1⟩ := take_snd hq g1
  rw [e1] at e2 a2 e3 a3 e4 a4 e5 a5
  dsimp only at e2 a2 e3 a3 e4 a4 e5 a5
  rw [e2] at e3 a3 e4 a4 e5 a5
  dsimp only at e3 a3 e4 a4 e5 a5
  rw [e3] at e4 a4 e5 a5
  dsimp only at e4 a4 e5 a5
  rw [e4] at e5 a5
  dsimp only at e5 a5
  have hE : entD q s = (⟨v1, v2, v3, v4, v5⟩, fw s 16) := by
    simp only [entD, e1, e2, e3, e4, e5]
    simp only [fw_fw]
  rw [hE]
  exact ⟨g0, rfl, a1.app (by rw [Pl.le_length]; exact a2.app (by rw [Pl.le_length]; exact a3.app (by rw [Pl.le_length]; exact a4.app (by rw [Pl.le_length]; exact a5))))⟩
/-- entries, one behind the other -/
def ensB (E : Nat → En) : Nat → List Nat
  | 0 => []
  | k + 1 => ensB E k ++ enB (E (k + 1))
theorem ensB_len (E : Nat → En) : ∀ k, (ensB E k).length = 16 * k
  | 0 => rfl
  | k + 1 => by rw [ensB, List.length_append, ensB_len E k, enB_len]; omega
theorem ents_snd {q : Pt} {s : D} (hq : Sb q) (hle : s.pos ≤ q.Z.length) : ∀ k, Ok (entS q s k) → Ok s ∧ entS q s k = fw s (16 * k) ∧ Ah q s (ensB (entE q s) k)
  | 0, h => by
    have h0 : Ok s := h
    exact ⟨h0, (fw_zero h0.2).symm, h0.2, hle, q.Z.drop s.pos, rfl⟩
  | k + 1, h => by
    obtain ⟨h1, h2, h3⟩ := ent_snd hq (show Ok (entD q (entS q s k)).2 from h)
    obtain ⟨g1, g2, g3⟩ := ents_snd hq hle k h1
    refine ⟨g1, ?_, ?_⟩
    · show (entD q (entS q s k)).2 = _
      rw [h2, g2, fw_fw, Nat.mul_succ]
    · rw [ensB]
      refine g3.app ?_
      rw [ensB_len, ← g2]
      exact h3
/-- the header's bytes -/
def hxB (x : Hd) (E : Nat → En) : List Nat := x.T ++ (Pl.le 2 x.n1 ++ (Pl.le 2 x.n2 ++ (Pl.le 4 x.cnt ++ (Pl.le 8 x.base ++ (ensB E 8 ++ (Pl.le 4 x.sm ++ Pl.le 4 x.zr))))))
theorem seal_each {E : Nat → En} {bs : List Nat} {s : D} : ∀ k, (sealS E bs k s).why = 0 → ∀ j, 1 ≤ j → j ≤ k → Pl.crc ((bs.drop (E j).f).take (E j).l) = (E j).c ∧ ∀ i, i < (E j).f - endN E bs.length (j - 1) → bs.getD (endN E bs.length (j - 1) + i) 0 = 0
  | 0, _, j, h1, h2 => by omega
  | k + 1, h, j, h1, h2 => by
    rw [sealS] at h
    obtain ⟨a, b⟩ := ask_zero' (by decide) h
    obtain ⟨c, d⟩ := zs_zero _ b
    by_cases e : j = k + 1
    · subst e
      exact ⟨of_decide_eq_true a, d⟩
    · exact seal_each k c j h1 (by omega)
end Dc
end Go.Proofs.YtmfkggngjeolcaaGreatDoor
/- Bundle: the image that is told, by value. Own work. -/
namespace Go.Proofs.YtmfkggngjeolcaaGreatDoor
open Go.RowKit Bn Dc
set_option linter.unusedVariables false
set_option linter.unusedSimpArgs false
theorem OwnG.tbG {w : World} {v : Value} {fs : List (Nat → Nat)} (h : OwnG 80 512 tbE w 0 v fs) : TbG w v fs := by
  obtain ⟨ao, cap, hv, h1, h2, h3⟩ := h.rowG tb_ok
  exact ⟨ao, cap, hv, h1, h2, fun i hi => by
    obtain ⟨b, o, ha, _, hc⟩ := h3 i hi
    exact ⟨b, o, ha, fun p hp => by rw [hc p hp, tbE, Array.getElem?_toList]; exact tabV_get _ hp⟩⟩
theorem LaO.lnG {w : World} {v : SlV} {ls : List (List (Int × Int))} (h : LaO w v ls) : LnG w (slE1 v) ls := by
  obtain ⟨us, ho, ht⟩ := h
  obtain ⟨ao, cap, hv, h1, h2, h3⟩ := ho.rowG sl_ok
  have hl := ht.len
  refine ⟨ao, cap, by rw [hv, hl], by omega, h2, fun j hj => ?_⟩
  obtain ⟨b, o, ha, _, hc⟩ := h3 j (by omega)
  refine ⟨b, o, slE1 us[j], ha, ?_, (ht.get j (by omega) hj).rowG st_ok⟩
  have := hc 0 (by decide)
  simpa [slE] using this
theorem PlO.plG {w : World} {v : Value} {ps : List Sc} (h : PlO w v ps) : PlG w v ps := by
  obtain ⟨us, ho, ht⟩ := h
  obtain ⟨ao, cap, hv, h1, h2, h3⟩ := ho.rowG sc_ok
  have hl := ht.len
  refine ⟨ao, cap, by rw [hv, hl], by omega, h2, fun i hi => ?_⟩
  obtain ⟨b, o, ha, _, hc⟩ := h3 i (by omega)
  obtain ⟨g1, g2⟩ := ht.get i (by omega) hi
  refine ⟨b, o, slE1 us[i].2, ha, ?_, ?_, g2.lnG⟩
  · have := hc 0 (by decide)
    simp [scE] at this
    rw [← g1]
    exact this
  · have := hc 1 (by decide)
    simp [scE] at this
    exact this
/-- all numbers are of their types -/
structure ImJ (J : Im) : Prop where
  k : ImK J
  subs : ∀ x ∈ J.subs, tnOk x
  ports : ∀ x ∈ J.ports, I64R x
  chs : ∀ x ∈ J.chs, lkOk x
  irqs : ∀ x ∈ J.irqs, lkOk x
  plans : ∀ x ∈ J.plans, scOk x
  master : I64R J.master
  start : I64R J.start
theorem ImD.one {w : World} {im : List Value} {J : Im} (h : ImD w im J) (hl : im.length = 12) : im.toArray.all (·.oneCell') = true := by
  obtain ⟨a0, a1, a2, a3, a4, a5, a6, a7, a8, a9, c0, c1, rfl⟩ := list12 hl
  obtain ⟨i0, ⟨v1, e1, o1⟩, ⟨v2, e2, o2⟩, ⟨v3, e3, o3⟩, ⟨v4, e4, o4⟩, ⟨v5, e5, o5⟩, ⟨v6, e6, o6⟩, ⟨v7, e7, o7⟩, ⟨v8, e8, us, o8, _⟩, i9, i10, ⟨v11, e11, o11⟩⟩ := h
  obtain ⟨_, _, r1, _⟩ := o1.form
  obtain ⟨_, _, r2, _⟩ := o2.form
  obtain ⟨_, _, r3, _⟩ := o3.form
  obtain ⟨_, _, r4, _⟩ := o4.form
  obtain ⟨_, _, r5, _⟩ := o5.form
  obtain ⟨_, _, r6, _⟩ := o6.form
  obtain ⟨_, _, r7, _⟩ := o7.form
  obtain ⟨_, _, r8, _⟩ := o8.form
  obtain ⟨_, _, r11, _⟩ := o11.form
  simp at i0 i9 i10 e1 e2 e3 e4 e5 e6 e7 e8 e11
  subst i0 i9 i10 e1 e2 e3 e4 e5 e6 e7 e8 e11
  rw [r1, r2, r3, r4, r5, r6, r7, r8, r11]
  kernel_rfl
theorem ImD.imA {w : World} {im : List Value} {J : Im} (h : ImD w im J) (hl : im.length = 12) (hJ : ImJ J) : ImA w im J := by
  have ho := h.one hl
  obtain ⟨i0, ⟨v1, e1, o1⟩, ⟨v2, e2, o2⟩, ⟨v3, e3, o3⟩, ⟨v4, e4, o4⟩, ⟨v5, e5, o5⟩, ⟨v6, e6, o6⟩, ⟨v7, e7, o7⟩, ⟨v8, e8, o8⟩, i9, i10, ⟨v11, e11, o11⟩⟩ := h
  exact ⟨⟨i0, hJ.k.base⟩, ⟨v1, e1, o1.rowG rg_ok, hJ.k.rams⟩, ⟨v2, e2, o2.rowG rg_ok, hJ.k.devs⟩, ⟨v3, e3, o3.rowG tn_ok, hJ.subs⟩, ⟨v4, e4, o4.rowG po_ok, hJ.ports⟩, ⟨v5, e5, o5.rowG gd_ok, hJ.k.regs⟩, ⟨v6, e6, o6.rowG lk_ok, hJ.chs⟩, ⟨v7, e7, o7.rowG lk_ok, hJ.irqs⟩, ⟨v8, e8, o8.plG, hJ.plans⟩, ⟨i9, hJ.master⟩, ⟨i10, hJ.start⟩, ⟨v11, e11, o11.tbG, hJ.k.tabs⟩, hl, ho⟩
end Go.Proofs.YtmfkggngjeolcaaGreatDoor
/- Bundle: what is laid down is read back. Plain. Own work. -/
namespace Go.Proofs.YtmfkggngjeolcaaGreatDoor
open Bn Dc
set_option linter.unusedVariables false
set_option linter.unusedSimpArgs false
namespace Dc
theorem ask_ok {b : Bool} {no sec ad : Int} {s : D} (h : b = true) : askD b no sec ad s = s := by
  unfold askD
  rw [if_neg (fun e => by rw [h] at e; cases e.1)]
theorem dir_ok' {E : Nat → En} {N : Nat} {s : D} : ∀ k, (∀ j, 1 ≤ j → j ≤ k → okD E N j = true) → dirS E N k s = s
  | 0, _ => rfl
  | k + 1, h => by rw [dirS, dir_ok' k (fun j h1 h2 => h j h1 (by omega)), ask_ok (h (k + 1) (by omega) (Nat.le_refl _))]
theorem zs_ok {bs : List Nat} {k e0 : Nat} {s : D} : ∀ n, (∀ i, i < n → bs.getD (e0 + i) 0 = 0) → zsS bs k e0 n s = s
  | 0, _ => rfl
  | n + 1, h => by rw [zsS, zs_ok n (fun i hi => h i (by omega)), ask_ok (decide_eq_true (h n (Nat.lt_succ_self n)))]
theorem seal_ok {E : Nat → En} {bs : List Nat} {s : D} : ∀ k, (∀ j, 1 ≤ j → j ≤ k → Pl.crc ((bs.drop (E j).f).take (E j).l) = (E j).c ∧ ∀ i, i < (E j).f - endN E bs.length (j - 1) → bs.getD (endN E bs.length (j - 1) + i) 0 = 0) → sealS E bs k s = s
  | 0, _ => rfl
  | k + 1, h => by
    obtain ⟨h1, h2⟩ := h (k + 1) (by omega) (Nat.le_refl _)
    rw [Nat.add_sub_cancel] at h2
    rw [sealS, seal_ok k (fun j a b => h j a (by omega)), zs_ok _ h2, ask_ok (decide_eq_true h1)]
theorem ent_back {q : Pt} {s : D} {x : En} (h : Ah q s (enB x)) (h1 : x.a < 65536) (h2 : x.b < 65536) (h3 : x.f < 4294967296) (h4 : x.l < 4294967296) (h5 : x.c < 4294967296) : entD q s = (x, fw s 16) := by
  have g1 := take_back h.left (by omega)
  have k1 := h.right
  rw [Pl.le_length] at k1
  have g2 := take_back k1.left (by omega)
  have k2 := k1.right
  rw [Pl.le_length] at k2
  have g3 := take_back k2.left (by omega)
  have k3 := k2.right
  rw [Pl.le_length] at k3
  have g4 := take_back k3.left (by omega)
  have k4 := k3.right
  rw [Pl.le_length] at k4
  have g5 := take_back k4 (by omega)
  simp only [entD, g1, g2, g3, g4, g5]
  simp only [fw_fw]
def enOk (x : En) : Prop := x.a < 65536 ∧ x.b < 65536 ∧ x.f < 4294967296 ∧ x.l < 4294967296 ∧ x.c < 4294967296
theorem ens_pre (E : Nat → En) (k : Nat) : ∀ n, k ≤ n → ∃ u, ensB E n = ensB E k ++ u
  | 0, h => ⟨[], by
    obtain rfl : k = 0 := by omega
    rfl⟩
  | n + 1, h => by
    by_cases e : k = n + 1
    · subst e; exact ⟨[], by simp⟩
    · obtain ⟨u, hu⟩ := ens_pre E k n (by omega)
      exact ⟨u ++ enB (E (n + 1)), by rw [ensB, hu, List.append_assoc]⟩
theorem ents_back {q : Pt} {s : D} {E : Nat → En} {n : Nat} (h : Ah q s (ensB E n)) (hE : ∀ j, 1 ≤ j → j ≤ n → enOk (E j)) : ∀ k, k ≤ n → entS q s k = fw s (16 * k) ∧ ∀ j, 1 ≤ j → j ≤ k → entE q s j = E j
  | 0, _ => ⟨(fw_zero h.rw0).symm, fun j h1 h2 => by omega⟩
  | k + 1, hk => by
    obtain ⟨i1, i2⟩ := ents_back h hE k (by omega)
    obtain ⟨u, hu⟩ := ens_pre E (k + 1) n hk
    rw [hu] at h
    have h9 := h.left
    rw [ensB] at h9
    have h8 := h9.right
    rw [ensB_len, ← i1] at h8
    obtain ⟨a, b, c, d, e⟩ := hE (k + 1) (by omega) hk
    have g := ent_back h8 a b c d e
    refine ⟨?_, fun j h1 h2 => ?_⟩
    · show (entD q (entS q s k)).2 = _
      rw [g, i1, fw_fw, Nat.mul_succ]
    · by_cases ej : j = k + 1
      · subst ej
        show (entD q (entS q s (k + 1 - 1))).1 = _
        rw [Nat.add_sub_cancel, g]
      · exact i2 j h1 (by omega)
/-- what is laid: where each part stands in all bytes -/
theorem st_pre (I : Im) (j : Nat) : ∀ k, j ≤ k → ∃ u, (stN I k).1 = (stN I j).1 ++ u
  | 0, h => ⟨[], by
    obtain rfl : j = 0 := by omega
    simp⟩
  | k + 1, h => by
    by_cases e : j = k + 1
    · subst e; exact ⟨[], by simp⟩
    · obtain ⟨u, hu⟩ := st_pre I j k (by omega)
      obtain ⟨s1, _⟩ := st_next I k
      exact ⟨u ++ (bz (fstN I k - (stN I k).1.length) ++ secB I k), by rw [s1, hu, List.append_assoc]⟩
theorem st_sec (I : Im) {k : Nat} (hk : k < 9) : ((stN I 9).1.drop (fstN I k)).take (lenN I k) = secB I k ∧ ((stN I 9).1.drop (stN I k).1.length).take (fstN I k - (stN I k).1.length) = bz (fstN I k - (stN I k).1.length) ∧ lenN I k = (secB I k).length := by
  obtain ⟨u, hu⟩ := st_pre I (k + 1) 9 (by omega)
  obtain ⟨s1, _⟩ := st_next I k
  have hb := (beg_le k (stN I k).1.length).2
  have hf : fstN I k = begN k (stN I k).1.length := rfl
  rw [← hf] at hb
  have hl : lenN I k = (secB I k).length := by
    have h9 := congrArg List.length s1
    rw [List.length_append, List.length_append, bz_len] at h9
    rw [lenN, h9]
    omega
  refine ⟨?_, ?_, hl⟩
  · obtain ⟨n, hn⟩ : ∃ n, fstN I k - (stN I k).1.length = n := ⟨_, rfl⟩
    rw [hn] at s1
    rw [hu, s1, hl, List.append_assoc, List.append_assoc, show fstN I k = (stN I k).1.length + n by omega, ← List.drop_drop, List.drop_left, List.drop_left' (bz_len n), List.take_left]
  · rw [hu, s1, List.append_assoc, List.append_assoc, List.drop_left, List.take_left' (bz_len _)]
theorem st_fit {I : Im} : ∀ k, (stN I k).2 = 0 → ∀ j, j < k → fitK I j
  | 0, _, j, h => by omega
  | k + 1, hw, j, h => by
    obtain ⟨a, b⟩ := (st_next I k).2.1 hw
    by_cases e : j = k
    · subst e; exact b
    · exact st_fit k a j (by omega)
end Dc
end Go.Proofs.YtmfkggngjeolcaaGreatDoor
