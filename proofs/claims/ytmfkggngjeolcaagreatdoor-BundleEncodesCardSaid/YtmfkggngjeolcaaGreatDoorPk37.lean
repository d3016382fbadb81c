import Derived.Test.YtmfkggngjeolcaaGreatDoorPk36
import Derived.Test.YtmfkggngjeolcaaGreatDoorPk34
import Derived.Test.YtmfkggngjeolcaaGreatDoorPk33
/- Bundle: what is laid down is read back, all of it. Plain. Own work. -/
namespace Go.Proofs.YtmfkggngjeolcaaGreatDoor
open Bn Dc
set_option linter.unusedVariables false
set_option linter.unusedSimpArgs false
namespace Dc
/-- bytes are bytes -/
def Sm (l : List Nat) : Prop := ∀ z ∈ l, z < 256
theorem Sm.app {a b : List Nat} (h : Sm a) (k : Sm b) : Sm (a ++ b) := fun z hz => (List.mem_append.1 hz).elim (h z) (k z)
theorem sm_le (k n : Nat) : Sm (Pl.le k n) := Pl.le_small k n
theorem sm_bz (n : Nat) : Sm (bz n) := fun z hz => by rw [List.eq_of_mem_replicate hz]; decide
theorem sm_nil : Sm [] := fun z hz => by cases hz
theorem sm_bts (t : ByteArray) : Sm (bts t) := fun z hz => by
  obtain ⟨x, _, rfl⟩ := List.mem_map.1 hz
  exact x.toNat_lt
theorem sm_lay {γ : Type} {f : Nat → γ → List Nat} (h : ∀ a x, Sm (f a x)) : ∀ (xs : List γ) (a : Nat), Sm (layL f a xs)
  | [], _ => sm_nil
  | x :: xs, a => (h a x).app (sm_lay h xs _)
theorem sm_many (n : Nat) : Sm (manyB n) := (sm_le _ _).app (sm_bz _)
theorem sm_gd (a : Nat) (g : Gd) : Sm (gdB a g) := (sm_le _ _).app ((sm_le _ _).app ((sm_le _ _).app ((sm_bz _).app ((sm_le _ _).app ((sm_bts _).app (sm_bz _))))))
theorem sm_lane (l : List (Int × Int)) : Sm (laneB l) := (sm_many _).app (sm_lay (fun _ x => (sm_le _ _).app ((sm_bz _).app (sm_le _ _))) _ _)
theorem sm_plan (p : Sc) : Sm (planB p) := (sm_le _ _).app ((sm_bz _).app (sm_lay (fun _ l => sm_lane l) _ _))
theorem sm_tb (f : Nat → Nat) : ∀ n, Sm (tb f n)
  | 0 => sm_nil
  | n + 1 => (sm_tb f n).app (sm_le _ _)
theorem sm_sec (I : Im) (k : Nat) : Sm (secB I k) := by
  match k with
  | 0 => exact sm_bz 160
  | 1 => exact (sm_le _ _).app ((sm_le _ _).app ((sm_bz _).app ((sm_lay (fun _ x => (sm_le _ _).app (sm_le _ _)) _ _).app (sm_lay (fun _ x => (sm_le _ _).app (sm_le _ _)) _ _))))
  | 2 => exact (sm_many _).app (sm_lay (fun _ x => (sm_le _ _).app ((sm_le _ _).app ((sm_le _ _).app ((sm_le _ _).app ((sm_le _ _).app (sm_le _ _)))))) _ _)
  | 3 => exact (sm_many _).app (sm_lay (fun _ x => (sm_le _ _).app (sm_bz _)) _ _)
  | 4 => exact (sm_many _).app (sm_lay sm_gd _ _)
  | 5 => exact (sm_many _).app (sm_lay (fun _ x => (sm_le _ _).app ((sm_le _ _).app ((sm_le _ _).app ((sm_le _ _).app (sm_bz _))))) _ _)
  | 6 => exact (sm_many _).app (sm_lay (fun _ x => (sm_le _ _).app ((sm_le _ _).app ((sm_le _ _).app ((sm_le _ _).app (sm_bz _))))) _ _)
  | 7 => exact (sm_le _ _).app ((sm_le _ _).app ((sm_le _ _).app ((sm_le _ _).app (sm_lay (fun _ x => sm_plan x) _ _))))
  | k + 8 => exact sm_lay (fun _ x => sm_tb x 512) _ _
theorem sm_st (I : Im) : ∀ k, Sm (stN I k).1
  | 0 => sm_nil
  | k + 1 => by
    rw [(st_next I k).1]
    exact (sm_st I k).app ((sm_bz _).app (sm_sec I k))
theorem sm_hdP (I : Im) (zs : List Nat) : ∀ i, Sm (hdP I zs i)
  | 0 => ((((show Sm magB by unfold Sm magB; decide).app (sm_le _ _)).app (sm_le _ _)).app (sm_le _ _)).app (sm_le _ _)
  | i + 1 => (sm_hdP I zs i).app (((((sm_le _ _).app (sm_le _ _)).app (sm_le _ _)).app (sm_le _ _)).app (sm_le _ _))
theorem sm_enc (I : Im) : Sm (encF I) := (((sm_hdP I _ 8).app (sm_le _ _)).app (sm_le _ _)).app (fun z hz => sm_st I 9 z (List.mem_of_mem_drop hz))
/-- an entry as it is laid -/
def entI (I : Im) (k : Nat) : En := ⟨k, 0, fstN I k, lenN I k, Pl.crc (secZ I (stN I 9).1 k)⟩
def updA (I : Im) : Nat → Im
  | 0 => { zeroI with base := I.base }
  | k + 1 => updK (updA I k) I (k + 1)
theorem enc_parts {I : Im} (hw : (sizeF I).2 = 0) : (stN I 9).2 = 0 ∧ (encF I).length = (stN I 9).1.length ∧ (stN I 9).1.length / 4096 * 4096 = (stN I 9).1.length ∧ (stN I 9).1.length / 4096 ≤ 1024 ∧ 160 ≤ (stN I 9).1.length ∧ (encF I).drop 160 = (stN I 9).1.drop 160 ∧ (encF I).take 160 = hdF I (stN I 9).1 := by
  have h9 := st9_ge I
  have h0 : (stN I 9).2 = 0 ∧ (stN I 9).1.length / 4096 ≤ 1024 := by
    unfold sizeF at hw
    by_cases e : (stN I 9).2 ≠ 0
    · rw [if_pos e] at hw
      exact absurd hw e
    · rw [if_neg e] at hw
      by_cases e2 : 1024 < (stN I 9).1.length / 4096
      · rw [if_pos e2] at hw
        exact absurd hw (show ¬ (4 : Int) = 0 by decide)
      · exact ⟨Decidable.byContradiction e, by omega⟩
  have hl : (stN I 9).1.length = fstN I 8 + (secB I 8).length := by
    obtain ⟨_, _, h3⟩ := st_sec I (k := 8) (by decide)
    have h4 := (fst_len I 8 (by decide)).1
    simp only [Nat.reduceAdd] at h4
    omega
  have h8 : (secB I 8).length % 4096 = 0 := by
    have k : ∀ (xs : List (Nat → Nat)) (a : Nat), (layL (fun _ => tabB) a xs).length = 4096 * xs.length := fun xs => by
      induction xs with
      | nil => intro a; rfl
      | cons x xs ih => intro a; rw [layL, List.length_append, tabB_len, ih, List.length_cons]; omega
    show (layL (fun _ => tabB) 0 I.tabs).length % 4096 = 0
    rw [k]
    omega
  have hm : fstN I 8 % 4096 = 0 := (beg_mod 8 _).2 rfl
  have hlen : (encF I).length = (stN I 9).1.length := by
    rw [encF, List.length_append, hdF_len, List.length_drop]
    omega
  exact ⟨h0.1, hlen, by omega, h0.2, h9, by rw [encF, List.drop_left' (hdF_len _ _)], by rw [encF, List.take_left' (hdF_len _ _)]⟩
end Dc
end Go.Proofs.YtmfkggngjeolcaaGreatDoor
/- Bundle, the document's own Encode: the same bytes. Plain. Own work. -/
namespace Go.Proofs.YtmfkggngjeolcaaGreatDoor
open Bn Ek
set_option linter.unusedVariables false
set_option linter.unusedSimpArgs false
theorem beg_same (j a : Nat) : begD j a = begN (j + 1) a := by
  unfold begD begN Bn.upN
  by_cases h : j = 7
  · subst h
    simp only [if_true, Nat.reduceAdd]
    split
    · split <;> omega
    · split <;> split <;> omega
  · have h2 : ¬ j + 1 = 8 := by omega
    rw [if_neg h]
    simp only [if_neg h2]
theorem len_same {I : Im} {j : Nat} (hj : j < 8) (ht : I.tabs.length ≤ 1024) : (pS I j).1.length = lenN I (j + 1) := by
  rw [(part_sim I hj (.inr ht)).len, (Dc.sec_lay I (j + 1) ([], 0) rfl).1, List.nil_append]
  exact ((Dc.st_sec I (k := j + 1) (by omega)).2.2).symm
theorem st_one_len (I : Im) : (stN I 1).1.length = 160 := by rw [st_one]; simp
theorem ls_len (I : Im) : (lsD I).length = 8 := by simp [lsD]
theorem ls_get (I : Im) {j : Nat} (hj : j < (lsD I).length) : (lsD I)[j] = (pS I j).1.length := by simp [lsD]
theorem plc_same {I : Im} (ht : I.tabs.length ≤ 1024) : ∀ j, j ≤ 8 → (plc 0 160 ((lsD I).take j)).2 = (stN I (j + 1)).1.length ∧ (j < 8 → begD j (plc 0 160 ((lsD I).take j)).2 = fstN I (j + 1))
  | 0, _ => by
    have h1 : (plc 0 160 ((lsD I).take 0)).2 = (stN I 1).1.length := by rw [st_one_len]; rfl
    exact ⟨h1, fun _ => by rw [h1, beg_same]; rfl⟩
  | j + 1, h => by
    have hl : j < (lsD I).length := by rw [ls_len]; omega
    obtain ⟨i1, i2⟩ := plc_same ht j (by omega)
    have h1 := congrArg List.length (Dc.st_next I (j + 1)).1
    rw [List.length_append, List.length_append, Dc.bz_len] at h1
    have h2 := (beg_le (j + 1) (stN I (j + 1)).1.length).2
    have h3 : fstN I (j + 1) = begN (j + 1) (stN I (j + 1)).1.length := rfl
    have h4 : (lsD I)[j] = (Dc.secB I (j + 1)).length := by
      rw [ls_get, len_same (by omega) ht, (Dc.st_sec I (k := j + 1) (by omega)).2.2]
    have h5 : (plc 0 160 ((lsD I).take (j + 1))).2 = (stN I (j + 1 + 1)).1.length := by
      rw [plc_take hl]
      simp only
      rw [i2 (by omega), h4, h1]
      omega
    exact ⟨h5, fun _ => by rw [h5, beg_same]; rfl⟩
theorem end_same {I : Im} (ht : I.tabs.length ≤ 1024) : endD I = (stN I 9).1.length := by
  have := (plc_same ht 8 (Nat.le_refl _)).1
  rw [List.take_of_length_le (by rw [ls_len]; exact Nat.le_refl _)] at this
  exact this
theorem plc_get : ∀ (ls : List Nat) (k a j : Nat), j < ls.length → (plc k a ls).1.getD j 0 = begD (k + j) (plc k a (ls.take j)).2
  | x :: ls, k, a, 0, _ => rfl
  | x :: ls, k, a, j + 1, h => by
    rw [List.take_succ_cons, plc, plc]
    have := plc_get ls (k + 1) (begD k a + x) j (by simpa using h)
    rw [show k + (j + 1) = k + 1 + j by omega]
    simpa using this
theorem at_same {I : Im} (ht : I.tabs.length ≤ 1024) {j : Nat} (hj : j < 8) : (atD I).getD j 0 = fstN I (j + 1) := by
  have h := plc_get (lsD I) 0 160 j (by rw [ls_len]; exact hj)
  rw [Nat.zero_add, (plc_same ht j (by omega)).2 hj] at h
  exact h
theorem ls_same {I : Im} (ht : I.tabs.length ≤ 1024) {j : Nat} (hj : j < 8) : (lsD I).getD j 0 = lenN I (j + 1) := by
  rw [List.getD_eq_getElem?_getD, List.getElem?_eq_getElem (by rw [ls_len]; exact hj), ls_get, len_same hj ht]
  rfl
theorem st_tabs (I : Im) : 160 + 4096 * I.tabs.length ≤ (stN I 9).1.length := by
  have e : stN I 9 = eachS tabS I.tabs (zerosS (begN 8 (stN I 8).1.length - (stN I 8).1.length) (stN I 8)) := rfl
  rw [e, tabs_len, zeros_len]
  have := stN_mono I 1 8 (by decide)
  rw [st_one_len] at this
  omega
/-- the same refusal, whole -/
theorem size_same (I : Im) : noD I = (sizeF I).2 := by
  unfold noD sizeF
  rw [no_same]
  by_cases h0 : (stN I 9).2 = 0
  · rw [if_neg (show ¬ (stN I 9).2 ≠ 0 from fun h => h h0)]
    by_cases ht : I.tabs.length ≤ 1024
    · rw [end_same ht]
      by_cases hq : 1024 < (stN I 9).1.length / 4096
      · rw [if_pos ⟨h0, .inr hq⟩, if_pos hq]
      · rw [if_neg (fun h => h.2.elim (by omega) hq), if_neg hq, h0]
    · have := st_tabs I
      rw [if_pos ⟨h0, .inl (by omega)⟩, if_pos (by omega)]
  · rw [if_pos h0, if_neg (fun h => h0 h.1)]
theorem not_refused {I : Im} (h : noD I = 0) : (stN I 9).2 = 0 ∧ I.tabs.length ≤ 1024 ∧ endD I = (stN I 9).1.length ∧ (stN I 9).1.length / 4096 ≤ 1024 := by
  have hz : (stN I 9).2 = 0 := by
    unfold noD at h
    split at h
    · cases h
    · rw [no_same] at h; exact h
  have ht : I.tabs.length ≤ 1024 := by
    apply Nat.le_of_not_lt
    intro ht
    unfold noD at h
    rw [if_pos ⟨by rw [no_same]; exact hz, .inl ht⟩] at h
    cases h
  refine ⟨hz, ht, end_same ht, ?_⟩
  apply Nat.le_of_not_lt
  intro hq
  unfold noD at h
  rw [if_pos ⟨by rw [no_same]; exact hz, .inr (by rw [end_same ht]; exact hq)⟩] at h
  cases h
theorem mS_zero {I : Im} (h : (stN I 9).2 = 0) : ∀ k, k ≤ 8 → mS I k = 0 := by
  have key : ∀ n, n ≤ 9 → (stN I n).2 = 0 → ∀ k, k < n → mS I k = 0 := fun n => by
    induction n with
    | zero => intro _ _ k hk; omega
    | succ n ih =>
      intro hn h0 k hk
      rw [(stN_c I n).2] at h0
      have a := (stN_c I n).1
      have b := mS_c I n
      have : (stN I n).2 = 0 ∧ mS I n = 0 := by
        rcases a with e | e | e <;> rcases b with e2 | e2 | e2 <;> rw [e, e2] at h0 <;> first | exact ⟨e, e2⟩ | (exact absurd h0 (by decide))
      by_cases e : k = n
      · subst e; exact this.2
      · exact ih (by omega) this.1 k (by omega)
  exact fun k hk => key 9 (Nat.le_refl _) h k (by omega)
theorem part_same {I : Im} (h : noD I = 0) {j : Nat} (hj : j < 8) : (pS I j).1 = Dc.secB I (j + 1) := by
  obtain ⟨hz, ht, _, _⟩ := not_refused h
  have hm := mS_zero hz (j + 1) (by omega)
  rw [(part_sim I hj (.inr ht)).bs (by show mS I (j + 1) ≠ 132; rw [hm]; decide), (Dc.sec_lay I (j + 1) ([], 0) rfl).1, List.nil_append]
theorem m2 {n : Nat} (h : n ≤ 65535) : mD 2 (n : Int) = n := by
  have e : fitD 2 (n : Int) = true := by
    unfold fitD
    rw [show (gN 2 : Int) = 65535 from rfl, decide_eq_true (by omega), decide_eq_true (by omega)]
    rfl
  rw [mD, if_pos e]
  rfl
theorem m4 {n : Nat} (h : n ≤ 4294967295) : mD 4 (n : Int) = n := by
  have e : fitD 4 (n : Int) = true := by
    unfold fitD
    rw [show (gN 4 : Int) = 4294967295 from rfl, decide_eq_true (by omega), decide_eq_true (by omega)]
    rfl
  rw [mD, if_pos e]
  rfl
theorem head_same {I : Im} (h : noD I = 0) : (hdD I).1 = hdF I (stN I 9).1 := by
  obtain ⟨hz, ht, he, hq⟩ := not_refused h
  have hb : ∀ j, j < 8 → fstN I (j + 1) ≤ 4294967295 ∧ lenN I (j + 1) ≤ 4294967295 := fun j hj => by
    have := fst_len I (j + 1) (by omega)
    omega
  have hp : ∀ k, k ≤ 8 → (hN I k).1 = hdP I (stN I 9).1 k := fun k => by
    induction k with
    | zero =>
      intro _
      show ((magB ++ Pl.le 2 (mD 2 1)) ++ Pl.le 2 (mD 2 8)) ++ Pl.le 4 (mD 4 ((endD I / 4096 : Nat) : Int)) ++ Pl.le 8 I.base = _
      rw [m4 (by rw [he]; omega), he]
      rfl
    | succ k ih =>
      intro hk
      have h1 := part_same h (j := k) (by omega)
      have h2 := (Dc.st_sec I (k := k + 1) (by omega)).1
      rw [hN, hdP, ← ih (by omega), secZ, h2, ← h1, at_same ht (by omega), ls_same ht (by omega)]
      show (((((hN I k).1 ++ Pl.le 2 (mD 2 ((k + 1 : Nat) : Int))) ++ List.replicate 2 0) ++ Pl.le 4 (mD 4 (fstN I (k + 1) : Int))) ++ Pl.le 4 (mD 4 (lenN I (k + 1) : Int))) ++ Pl.le 4 _ = _
      rw [m2 (by omega), m4 (hb k (by omega)).1, m4 (hb k (by omega)).2, entB]
      simp only [List.append_assoc]
      rfl
  rw [hdD, hdF, ← hp 8 (Nat.le_refl _)]
  rfl
theorem lay_at {A Z ps : List Nat} {g n : Nat} (hg : g + ps.length ≤ n) (hZ : Z = List.replicate n 0) : layB (A ++ Z) (A.length + g) ps = A ++ (List.replicate g 0 ++ ps) ++ List.replicate (n - (g + ps.length)) 0 := by
  subst hZ
  unfold layB
  rw [List.take_append, List.take_of_length_le (by omega), Nat.add_sub_cancel_left, List.take_replicate, Nat.min_eq_left (by omega), Nat.add_assoc, ← List.drop_drop, List.drop_left, List.drop_replicate]
  simp only [List.append_assoc]
theorem bytes_same {I : Im} (h : noD I = 0) : bD I 8 = encF I := by
  obtain ⟨hz, ht, he, hq⟩ := not_refused h
  have hH := head_same h
  have hHl : (hdF I (stN I 9).1).length = 160 := hdF_len I _
  have key : ∀ j, j ≤ 8 → bD I j = (hdF I (stN I 9).1 ++ (stN I (j + 1)).1.drop 160) ++ List.replicate ((stN I 9).1.length - (stN I (j + 1)).1.length) 0 := fun j => by
    induction j with
    | zero =>
      intro _
      have h9 := st9_ge I
      rw [bD, hH, he]
      have := lay_at (A := []) (Z := List.replicate (stN I 9).1.length 0) (ps := hdF I (stN I 9).1) (g := 0) (n := (stN I 9).1.length) (by rw [hHl]; omega) rfl
      rw [List.nil_append, List.length_nil, Nat.zero_add, Nat.zero_add] at this
      rw [this, st_one]
      simp only [hHl, List.drop_replicate, List.length_replicate, Nat.sub_self, List.replicate_zero, List.nil_append, List.append_nil, Nat.zero_add]
    | succ j ih =>
      intro hj
      have i1 := ih (by omega)
      have hs := (Dc.st_next I (j + 1)).1
      have hf : fstN I (j + 1) = begN (j + 1) (stN I (j + 1)).1.length := rfl
      have hfl := (beg_le (j + 1) (stN I (j + 1)).1.length).2
      have hm := stN_mono I (j + 1 + 1) 9 (by omega)
      have hm1 := stN_mono I 1 (j + 1) (by omega)
      rw [st_one_len] at hm1
      have hlen := congrArg List.length hs
      rw [List.length_append, List.length_append, Dc.bz_len] at hlen
      have hA : (hdF I (stN I 9).1 ++ (stN I (j + 1)).1.drop 160).length = (stN I (j + 1)).1.length := by
        rw [List.length_append, hHl, List.length_drop]
        omega
      rw [bD, i1, part_same h (by omega), at_same ht (by omega)]
      have e1 : fstN I (j + 1) = (hdF I (stN I 9).1 ++ (stN I (j + 1)).1.drop 160).length + (fstN I (j + 1) - (stN I (j + 1)).1.length) := by rw [hA]; omega
      have e2 := lay_at (A := hdF I (stN I 9).1 ++ (stN I (j + 1)).1.drop 160) (Z := List.replicate ((stN I 9).1.length - (stN I (j + 1)).1.length) 0) (ps := Dc.secB I (j + 1)) (g := fstN I (j + 1) - (stN I (j + 1)).1.length) (n := (stN I 9).1.length - (stN I (j + 1)).1.length) (by omega) rfl
      rw [← e1] at e2
      rw [e2, hs, List.drop_append_of_le_length hm1]
      rw [show (stN I 9).1.length - (stN I (j + 1)).1.length - (fstN I (j + 1) - (stN I (j + 1)).1.length + (Dc.secB I (j + 1)).length) = (stN I 9).1.length - ((stN I (j + 1)).1 ++ (Dc.bz (fstN I (j + 1) - (stN I (j + 1)).1.length) ++ Dc.secB I (j + 1))).length by
        rw [List.length_append, List.length_append, Dc.bz_len]; omega]
      simp only [List.append_assoc]
      rfl
  rw [key 8 (Nat.le_refl _), encF]
  simp
end Go.Proofs.YtmfkggngjeolcaaGreatDoor
/- Bundle, the document's own Size; what its Encode answers. Own work. -/
namespace Go.Proofs.YtmfkggngjeolcaaGreatDoor
open Go.RowKit Bn Ek
set_option linter.unusedVariables false
set_option linter.unusedSimpArgs false
/-- the document's Encode: what the program answers -/
theorem rencX {w : World} {im : List Value} {I : Im} (h : ImA w im I) (hc : cntI I < 4000000) : Calls Tryz.prog 16 #[.agg im.toArray] w fun e w' => ∃ v, e = .returned (.tuple #[v, .int .i64 (sizeF I).2]) ∧ ((sizeF I).2 ≠ 0 → v = .slice none 0 0) ∧ ((sizeF I).2 = 0 → Own w' w.heap.size v (encF I)) ∧ Below w.heap.size w w' :=
  (kencodeX h hc).mono (fun e w' ⟨v, h1, h2, h3, h4⟩ => ⟨v, by rw [← size_same]; exact h1, fun h9 => h2 (by rw [size_same]; exact h9), fun h9 => by
    have h0 : noD I = 0 := by rw [size_same]; exact h9
    rw [← bytes_same h0]
    exact h3 h0, h4⟩)
set_option maxRecDepth 100000 in
set_option maxHeartbeats 8000000 in
theorem rsizeX {w : World} {im : List Value} {I : Im} (h : ImA w im I) (hc : cntI I < 4000000) : Calls Tryz.prog 17 #[.agg im.toArray] w fun e w' => e = .returned (.tuple #[.int .i64 (sizeF I).1, .int .i64 (sizeF I).2]) ∧ Below w.heap.size w w' := by
  have hlen := h.len
  have hB : Below w.heap.size w (w.alloc (.cells im.toArray 33)) := (Below.refl _ _).alloc (Nat.le_refl _) _
  have HZ0 : Hid ((w.alloc (.cells im.toArray 33)).heap[w.heap.size]? = some (.cells im.toArray 33 (0, 0))) := heap_alloc_new w _
  have HB := Lib.hid hB
  have HC := Lib.hid (rencX (h.below hB) hc)
  have HIn := Lib.hid (info_im hlen)
  have hsm : (sizeF I).2 = 0 → (encF I).length / 4096 = ((stN I 9).1.length / 4096) ∧ (encF I).length ≤ 4198399 ∧ (sizeF I).1 = ((stN I 9).1.length / 4096 : Nat) := fun h0 => by
    obtain ⟨h1, h2, h3, h4, _⟩ := Dc.enc_parts h0
    refine ⟨by rw [h2], by rw [h2]; omega, ?_⟩
    unfold sizeF
    rw [if_neg (fun h => h h1), if_neg (by omega)]
  have hno : (sizeF I).2 ≠ 0 → (sizeF I).1 = 0 := fun h0 => by
    unfold sizeF at h0 ⊢
    split
    · rfl
    · rename_i h1
      rw [if_neg h1] at h0
      split
      · rfl
      · rename_i h2
        rw [if_neg h2] at h0
        exact absurd rfl h0
  have HSm := Lib.hid hsm
  have HNo := Lib.hid hno
  clear h hlen hB hsm hno
  generalize hz1 : (sizeF I).1 = z1 at *
  generalize hz2 : (sizeF I).2 = z2 at *
  clear hz1 hz2
  go_enter Tryz.func17, Tryz.ntmps17
  go_wp2_with (refine wpList_load_arr rfl 33 (.tmp 1) rfl (b := w.heap.size) (g := im.toArray) rfl HZ0.out Tryz.underlying33 rfl HIn.out ?_)
  refine HC.out.mono ?_
  rintro e w1 ⟨v, rfl, hv1, hv2, hb⟩
  have HBf : Hid (Below w.heap.size w w1) := HB.out.trans (hb.mono HB.out.size)
  by_cases h0 : z2 = 0
  · obtain ⟨e1, e2, e3⟩ := HSm.out h0
    obtain ⟨a, c, hva⟩ := own_slice (hv2 h0)
    subst hva
    obtain ⟨n, hn⟩ : ∃ n, (encF I).length = n := ⟨_, rfl⟩
    have hq : Int.tdiv ((n : Nat) : Int) 4096 = z1 := by rw [e3, ← e1, hn]; rfl
    rw [hn] at e2 ⊢
    have hqw : IntKind.i64.wrap z1 = z1 := by rw [IntKind.wrap_i64, ← hq, show Int.tdiv ((n : Nat) : Int) 4096 = ((n / 4096 : Nat) : Int) from rfl]; omega
    clear hv1 hv2 hb HC HZ0 HB HIn HSm HNo e1 e3 hn
    go_wp2_with fail
    go_ret2
    exact ⟨by rw [h0]; rfl, HBf.out⟩
  · have hz := HNo.out h0
    have hv := hv1 h0
    subst hv hz
    clear hv1 hv2 hb HC HZ0 HB HIn HSm HNo
    go_wp2_with fail
    go_ret2
    exact ⟨rfl, HBf.out⟩
end Go.Proofs.YtmfkggngjeolcaaGreatDoor
