import Derived.Test.YtmfkggngjeolcaaGreatDoorPk33
import Derived.Test.YtmfkggngjeolcaaGreatDoorPk24
/- Bundle, the document's own Encode: its refusal is the program's. Plain. Own work. -/
namespace Go.Proofs.YtmfkggngjeolcaaGreatDoor
open Bn Ek
set_option linter.unusedVariables false
set_option linter.unusedSimpArgs false
/-- a step that makes the refusal worse at most -/
def Mx (f : S → S) : Prop := ∃ m, C3 m ∧ ∀ s, C3 s.2 → (f s).2 = max s.2 m
theorem C3.max {a b : Int} (h : C3 a) (k : C3 b) : C3 (max a b) := by
  rcases h with rfl | rfl | rfl <;> rcases k with rfl | rfl | rfl <;> first | exact .inl rfl | exact .inr (.inl rfl) | exact .inr (.inr rfl)
theorem Mx.comp {f g : S → S} (hf : Mx f) (hg : Mx g) : Mx (fun s => g (f s)) := by
  obtain ⟨m, hm, h⟩ := hf
  obtain ⟨n, hn, k⟩ := hg
  refine ⟨max m n, hm.max hn, fun s hs => ?_⟩
  rw [k _ (by rw [h s hs]; exact hs.max hm), h s hs]
  omega
theorem Mx.id (f : S → S) (h : ∀ s, (f s).2 = s.2) : Mx f := ⟨0, .inl rfl, fun s hs => by
  rw [h]
  rcases hs with e | e | e <;> rw [e] <;> rfl⟩
theorem Mx.field (f : S → S) (b : Bool) (h : ∀ s, (f s).2 = fieldF s.2 b) : Mx f := by
  cases b with
  | true => exact Mx.id f h
  | false => exact ⟨132, .inr (.inr rfl), fun s hs => by
      rw [h]
      rcases hs with e | e | e <;> rw [e] <;> rfl⟩
theorem Mx.ask (f : S → S) (b : Bool) (h : ∀ s, (f s).2 = askF s.2 b 3) : Mx f := by
  cases b with
  | true => exact Mx.id f (fun s => by rw [h]; unfold askF; rw [if_neg (by simp)])
  | false => exact ⟨3, .inr (.inl rfl), fun s hs => by
      rw [h]
      rcases hs with e | e | e <;> rw [e] <;> rfl⟩
theorem Mx.byte (k : Int) : Mx (byteS k) := Mx.field _ (fitB 0 255 k) (fun _ => rfl)
theorem Mx.half (k : Int) : Mx (halfS k) := Mx.field _ (fitB 0 65535 k) (fun _ => rfl)
theorem Mx.word (k : Int) : Mx (wordS k) := Mx.field _ (fitB 0 4294967295 k) (fun _ => rfl)
theorem Mx.none (k : Int) : Mx (noneS k) := Mx.field _ (noneB k) (fun _ => rfl)
theorem Mx.flag (b : Bool) : Mx (flagS b) := Mx.byte _
theorem Mx.fld (b : Bool) : Mx (fieldS b) := Mx.field _ b (fun _ => rfl)
theorem Mx.zeros (n : Nat) : Mx (zerosS n) := Mx.id _ (fun _ => rfl)
theorem Mx.long (n : Nat) : Mx (longS n) := Mx.id _ (fun _ => rfl)
theorem Mx.many (n : Nat) : Mx (manyS n) := (Mx.half _).comp (Mx.zeros 6)
theorem Mx.each {α : Type} {f : α → S → S} (hf : ∀ x, Mx (f x)) : ∀ xs : List α, Mx (eachS f xs)
  | [] => Mx.id _ (fun _ => rfl)
  | x :: xs => (hf x).comp (Mx.each hf xs)
theorem Mx.pad : Mx (padS 8) := Mx.id _ (fun _ => rfl)
theorem Mx.range (x : Rg) : Mx (rangeS x) := (Mx.long _).comp (Mx.long _)
theorem Mx.ten (x : Tn) : Mx (tenS x) := (((((Mx.byte _).comp (Mx.flag _)).comp (Mx.byte _)).comp (Mx.byte _)).comp (Mx.none _)).comp (Mx.none _)
theorem Mx.port (x : Int) : Mx (portS x) := (Mx.none _).comp (Mx.zeros 6)
theorem Mx.ch (x : Lk) : Mx (chS x) := (((((Mx.fld _).comp (Mx.none _)).comp (Mx.none _)).comp (Mx.byte _)).comp (Mx.byte _)).comp (Mx.zeros 2)
theorem Mx.iq (x : Lk) : Mx (iqS x) := (((((Mx.fld _).comp (Mx.none _)).comp (Mx.none _)).comp (Mx.byte _)).comp (Mx.flag _)).comp (Mx.zeros 2)
theorem Mx.st (x : Int × Int) : Mx (stS x) := ((Mx.none _).comp (Mx.zeros 2)).comp (Mx.word _)
theorem Mx.lane (x : List (Int × Int)) : Mx (laneS x) := (Mx.many _).comp (Mx.each (fun x => Mx.st x) x)
theorem Mx.plan (n : Nat) (x : Sc) : Mx (planS n x) := (((Mx.fld _).comp (Mx.word _)).comp (Mx.zeros 4)).comp (Mx.each (fun x => Mx.lane x) x.lanes)
theorem Mx.tab (f : Nat → Nat) : Mx (tabS f) := Mx.id _ (fun _ => rfl)
theorem Mx.text (t : ByteArray) : Mx (textS t) := (((Mx.ask (askS (decide (t.size ≤ 1048576)) 3) (decide (t.size ≤ 1048576)) (fun _ => rfl)).comp (Mx.word _)).comp (Mx.id (bytesS (bts t)) (fun _ => rfl))).comp Mx.pad
theorem Mx.gd (x : Gd) : Mx (gdS x) := ((((Mx.long _).comp (Mx.long _)).comp (Mx.byte _)).comp (Mx.zeros 3)).comp (Mx.text _)
theorem Mx.sec (I : Im) (k : Nat) : Mx (secS I k) := by
  match k with
  | 0 => exact (Mx.fld _).comp (Mx.zeros 160)
  | 1 => exact ((((Mx.half _).comp (Mx.half _)).comp (Mx.zeros 4)).comp (Mx.each (fun x => Mx.range x) I.rams)).comp (Mx.each (fun x => Mx.range x) I.devs)
  | 2 => exact (Mx.many _).comp (Mx.each (fun x => Mx.ten x) _)
  | 3 => exact ((Mx.fld _).comp (Mx.many _)).comp (Mx.each (fun x => Mx.port x) _)
  | 4 => exact (Mx.many _).comp (Mx.each (fun x => Mx.gd x) _)
  | 5 => exact (Mx.many _).comp (Mx.each (fun x => Mx.ch x) _)
  | 6 => exact (Mx.many _).comp (Mx.each (fun x => Mx.iq x) _)
  | 7 => exact ((((Mx.half _).comp (Mx.half _)).comp (Mx.none _)).comp (Mx.half _)).comp (Mx.each (fun x => Mx.plan _ x) _)
  | k + 8 => exact Mx.each (fun x => Mx.tab x) _
/-- a section's own refusal -/
def mS (I : Im) (k : Nat) : Int := (secS I k ([], 0)).2
theorem mS_c (I : Im) (k : Nat) : C3 (mS I k) := by
  obtain ⟨m, hm, h⟩ := Mx.sec I k
  have := h ([], 0) (.inl rfl)
  rw [mS, this]
  exact C3.max (.inl rfl) hm
theorem mS_of (I : Im) (k : Nat) (s : S) (hs : C3 s.2) : (secS I k s).2 = max s.2 (mS I k) := by
  obtain ⟨m, hm, h⟩ := Mx.sec I k
  have h1 := h ([], 0) (.inl rfl)
  rw [mS, h1, h s hs]
  rcases hm with rfl | rfl | rfl <;> rfl
theorem stN_c (I : Im) : ∀ k, C3 (stN I k).2 ∧ (stN I (k + 1)).2 = max (stN I k).2 (mS I k)
  | 0 => ⟨.inl rfl, mS_of I 0 (zerosS _ (stN I 0)) (.inl rfl)⟩
  | k + 1 => by
    obtain ⟨h1, h2⟩ := stN_c I k
    have h3 : C3 (stN I (k + 1)).2 := by rw [h2]; exact h1.max (mS_c I k)
    exact ⟨h3, mS_of I (k + 1) (zerosS _ (stN I (k + 1))) h3⟩
theorem worst_c (I : Im) : C3 (worstD I) := by
  unfold worstD
  split
  · exact .inr (.inr rfl)
  · split
    · exact .inr (.inl rfl)
    · exact .inl rfl
theorem noK_max (I : Im) (hp : ∀ j, j < 8 → (pS I j).2 = 0 ∨ (pS I j).2 = 132) : ∀ k, k < 8 → C3 (noK I k) ∧ noK I (k + 1) = max (noK I k) (pS I k).2 := by
  have st : ∀ a p : Int, C3 a → (p = 0 ∨ p = 132) → (if (a = 0 ∨ a = 3 ∧ p = 132) ∧ p ≠ 0 then p else a) = max a p := fun a p ha h => by
    rcases ha with rfl | rfl | rfl <;> rcases h with rfl | rfl <;> rfl
  intro k
  induction k with
  | zero => exact fun h => ⟨worst_c I, st _ _ (worst_c I) (hp 0 (by decide))⟩
  | succ k ih =>
    intro h
    obtain ⟨h1, h2⟩ := ih (by omega)
    have h3 : C3 (noK I (k + 1)) := by
      rw [h2]
      exact h1.max ((hp k (by omega)).elim .inl (fun e => .inr (.inr e)))
    exact ⟨h3, st _ _ h3 (hp (k + 1) h)⟩
/-- a step that never says: too long -/
def Nx (f : S → S) : Prop := ∀ s, s.2 ≠ 3 → (f s).2 ≠ 3
theorem Nx.comp {f g : S → S} (hf : Nx f) (hg : Nx g) : Nx (fun s => g (f s)) := fun s hs => hg _ (hf s hs)
theorem Nx.id (f : S → S) (h : ∀ s, (f s).2 = s.2) : Nx f := fun s hs => by rw [h]; exact hs
theorem Nx.field (f : S → S) (b : Bool) (h : ∀ s, (f s).2 = fieldF s.2 b) : Nx f := fun s hs => by
  rw [h]
  cases b with
  | true => exact hs
  | false => exact (by decide : (132 : Int) ≠ 3)
theorem Nx.byte (k : Int) : Nx (byteS k) := Nx.field _ (fitB 0 255 k) (fun _ => rfl)
theorem Nx.half (k : Int) : Nx (halfS k) := Nx.field _ (fitB 0 65535 k) (fun _ => rfl)
theorem Nx.word (k : Int) : Nx (wordS k) := Nx.field _ (fitB 0 4294967295 k) (fun _ => rfl)
theorem Nx.none (k : Int) : Nx (noneS k) := Nx.field _ (noneB k) (fun _ => rfl)
theorem Nx.flag (b : Bool) : Nx (flagS b) := Nx.byte _
theorem Nx.fld (b : Bool) : Nx (fieldS b) := Nx.field _ b (fun _ => rfl)
theorem Nx.zeros (n : Nat) : Nx (zerosS n) := Nx.id _ (fun _ => rfl)
theorem Nx.long (n : Nat) : Nx (longS n) := Nx.id _ (fun _ => rfl)
theorem Nx.many (n : Nat) : Nx (manyS n) := (Nx.half _).comp (Nx.zeros 6)
theorem Nx.each {α : Type} {f : α → S → S} (hf : ∀ x, Nx (f x)) : ∀ xs : List α, Nx (eachS f xs)
  | [] => Nx.id _ (fun _ => rfl)
  | x :: xs => (hf x).comp (Nx.each hf xs)
theorem Nx.pad : Nx (padS 8) := Nx.id _ (fun _ => rfl)
theorem Nx.range (x : Rg) : Nx (rangeS x) := (Nx.long _).comp (Nx.long _)
theorem Nx.ten (x : Tn) : Nx (tenS x) := (((((Nx.byte _).comp (Nx.flag _)).comp (Nx.byte _)).comp (Nx.byte _)).comp (Nx.none _)).comp (Nx.none _)
theorem Nx.port (x : Int) : Nx (portS x) := (Nx.none _).comp (Nx.zeros 6)
theorem Nx.ch (x : Lk) : Nx (chS x) := (((((Nx.fld _).comp (Nx.none _)).comp (Nx.none _)).comp (Nx.byte _)).comp (Nx.byte _)).comp (Nx.zeros 2)
theorem Nx.iq (x : Lk) : Nx (iqS x) := (((((Nx.fld _).comp (Nx.none _)).comp (Nx.none _)).comp (Nx.byte _)).comp (Nx.flag _)).comp (Nx.zeros 2)
theorem Nx.st (x : Int × Int) : Nx (stS x) := ((Nx.none _).comp (Nx.zeros 2)).comp (Nx.word _)
theorem Nx.lane (x : List (Int × Int)) : Nx (laneS x) := (Nx.many _).comp (Nx.each (fun x => Nx.st x) x)
theorem Nx.plan (n : Nat) (x : Sc) : Nx (planS n x) := (((Nx.fld _).comp (Nx.word _)).comp (Nx.zeros 4)).comp (Nx.each (fun x => Nx.lane x) x.lanes)
theorem Nx.tab (f : Nat → Nat) : Nx (tabS f) := Nx.id _ (fun _ => rfl)
theorem Nx.text (t : ByteArray) (ht : t.size ≤ 1048576) : Nx (textS t) := (((Nx.id (askS (decide (t.size ≤ 1048576)) 3) (fun s => by show askF _ _ _ = _; rw [decide_eq_true ht]; unfold askF; rw [if_neg (by simp)])).comp (Nx.word _)).comp (Nx.id (bytesS (bts t)) (fun _ => rfl))).comp Nx.pad
theorem Nx.gd (x : Gd) (ht : x.txt.size ≤ 1048576) : Nx (gdS x) := ((((Nx.long _).comp (Nx.long _)).comp (Nx.byte _)).comp (Nx.zeros 3)).comp (Nx.text _ ht)
theorem Nx.gds : ∀ xs : List Gd, (∀ x ∈ xs, x.txt.size ≤ 1048576) → Nx (eachS gdS xs)
  | [], _ => Nx.id _ (fun _ => rfl)
  | x :: xs, h => (Nx.gd x (h x (List.mem_cons_self ..))).comp (Nx.gds xs (fun y hy => h y (List.mem_cons_of_mem _ hy)))
theorem Nx.sec (I : Im) (k : Nat) (h4 : k = 4 → ∀ x ∈ I.regs, x.txt.size ≤ 1048576) : Nx (secS I k) := by
  match k with
  | 0 => exact (Nx.fld _).comp (Nx.zeros 160)
  | 1 => exact ((((Nx.half _).comp (Nx.half _)).comp (Nx.zeros 4)).comp (Nx.each (fun x => Nx.range x) I.rams)).comp (Nx.each (fun x => Nx.range x) I.devs)
  | 2 => exact (Nx.many _).comp (Nx.each (fun x => Nx.ten x) _)
  | 3 => exact ((Nx.fld _).comp (Nx.many _)).comp (Nx.each (fun x => Nx.port x) _)
  | 4 => exact (Nx.many _).comp (Nx.gds _ (h4 rfl))
  | 5 => exact (Nx.many _).comp (Nx.each (fun x => Nx.ch x) _)
  | 6 => exact (Nx.many _).comp (Nx.each (fun x => Nx.iq x) _)
  | 7 => exact ((((Nx.half _).comp (Nx.half _)).comp (Nx.none _)).comp (Nx.half _)).comp (Nx.each (fun x => Nx.plan _ x) _)
  | k + 8 => exact Nx.each (fun x => Nx.tab x) _

theorem mS_n3 (I : Im) (k : Nat) (h4 : k = 4 → ∀ x ∈ I.regs, x.txt.size ≤ 1048576) : mS I k ≠ 3 := Nx.sec I k h4 ([], 0) (by decide)
theorem p_of (I : Im) {j : Nat} (hj : j < 8) (ht : j < 7 ∨ I.tabs.length ≤ 1024) : (pS I j).2 = if mS I (j + 1) = 132 then 132 else 0 := (part_sim I hj ht).no
theorem tabs_no : ∀ (xs : List (Nat → Nat)) (s : S), (eachS tabS xs s).2 = s.2
  | [], _ => rfl
  | x :: xs, s => tabs_no xs _
theorem p_seven (I : Im) : (pS I 7).2 = mS I 8 := by
  show (eachS tabS (fewD I) ([], 0)).2 = (eachS tabS I.tabs ([], 0)).2
  rw [tabs_no, tabs_no]
theorem p_in (I : Im) : ∀ j, j < 8 → (pS I j).2 = 0 ∨ (pS I j).2 = 132 := fun j hj => by
  by_cases h7 : j < 7
  · rw [p_of I hj (.inl h7)]
    split
    · exact .inr rfl
    · exact .inl rfl
  · obtain rfl : j = 7 := by omega
    have h1 := mS_c I 8
    have h2 := mS_n3 I 8 (fun e => by omega)
    rw [p_seven]
    rcases h1 with e | e | e
    · exact .inl e
    · exact absurd e h2
    · exact .inr e
theorem long_of (I : Im) (h : mS I 4 = 0) : ∀ x ∈ I.regs, x.txt.size ≤ 1048576 := by
  have h1 := (Dc.sec_lay I 4 ([], 0) rfl).2.1 h
  exact fun x hx => (h1.2.2 x hx).2
theorem base_of (I : Im) : mS I 0 = if 0 < I.base % 4096 then 132 else 0 := by
  show (roomS I ([], 0)).2 = _
  unfold roomS
  rw [Dc.zeros2]
  show fieldF 0 _ = _
  by_cases h : I.base % 4096 = 0
  · rw [decide_eq_true h, if_neg (by omega)]; rfl
  · rw [decide_eq_false h, if_pos (by omega)]; rfl
/-- the same refusal -/
theorem no_same (I : Im) : noK I 8 = (stN I 9).2 := by
  have hp := p_in I
  have n0 := (noK_max I hp 0 (by decide)).2
  have n1 := (noK_max I hp 1 (by decide)).2
  have n2 := (noK_max I hp 2 (by decide)).2
  have n3 := (noK_max I hp 3 (by decide)).2
  have n4 := (noK_max I hp 4 (by decide)).2
  have n5 := (noK_max I hp 5 (by decide)).2
  have n6 := (noK_max I hp 6 (by decide)).2
  have n7 := (noK_max I hp 7 (by decide)).2
  have s0 := (stN_c I 0).2
  have s1 := (stN_c I 1).2
  have s2 := (stN_c I 2).2
  have s3 := (stN_c I 3).2
  have s4 := (stN_c I 4).2
  have s5 := (stN_c I 5).2
  have s6 := (stN_c I 6).2
  have s7 := (stN_c I 7).2
  have s8 := (stN_c I 8).2
  have q : ∀ j, j < 7 → j ≠ 3 → (pS I j).2 = mS I (j + 1) := fun j hj h3 => by
    rw [p_of I (by omega) (.inl hj)]
    rcases mS_c I (j + 1) with e | e | e
    · rw [e]; rfl
    · exact absurd e (mS_n3 I (j + 1) (fun h => by omega))
    · rw [e]; rfl
  have q0 := q 0 (by decide) (by decide)
  have q1 := q 1 (by decide) (by decide)
  have q2 := q 2 (by decide) (by decide)
  have q4 := q 4 (by decide) (by decide)
  have q5 := q 5 (by decide) (by decide)
  have q6 := q 6 (by decide) (by decide)
  have q7 := p_seven I
  have q3 := p_of I (j := 3) (by decide) (.inl (by decide))
  have hb := base_of I
  have hw : worstD I = if 0 < I.base % 4096 then 132 else if I.regs.any (fun g => decide (1048576 < g.txt.size)) then 3 else 0 := rfl
  have key : max (worstD I) (pS I 3).2 = max (mS I 0) (mS I 4) := by
    rw [hw, hb, q3]
    by_cases h0 : 0 < I.base % 4096
    · rw [if_pos h0, if_pos h0]
      rcases mS_c I 4 with e | e | e <;> rw [e] <;> rfl
    · rw [if_neg h0, if_neg h0]
      by_cases hl : I.regs.any (fun g => decide (1048576 < g.txt.size)) = true
      · rw [if_pos hl]
        rcases mS_c I 4 with e | e | e
        · obtain ⟨x, hx, h9⟩ := List.any_eq_true.1 hl
          have := long_of I e x hx
          have := of_decide_eq_true h9
          omega
        · rw [e]; rfl
        · rw [e]; rfl
      · rw [if_neg hl]
        have hn : mS I 4 ≠ 3 := mS_n3 I 4 (fun _ x hx => by
          apply Nat.le_of_not_lt
          intro h9
          exact hl (List.any_eq_true.2 ⟨x, hx, decide_eq_true h9⟩))
        rcases mS_c I 4 with e | e | e
        · rw [e]; rfl
        · exact absurd e hn
        · rw [e]; rfl
  have e0 : noK I 0 = worstD I := rfl
  have z0 : (stN I 0).2 = 0 := rfl
  have c0 := mS_c I 0
  have c4 := mS_c I 4
  simp only [Nat.zero_add, Nat.reduceAdd] at *
  rw [n7, n6, n5, n4, n3, n2, n1, n0, s8, s7, s6, s5, s4, s3, s2, s1, s0, e0, z0, q0, q1, q2, q4, q5, q6, q7]
  generalize (pS I 3).2 = p3 at *
  generalize worstD I = w at *
  generalize mS I 0 = m0 at *
  generalize mS I 1 = m1 at *
  generalize mS I 2 = m2 at *
  generalize mS I 3 = m3 at *
  generalize mS I 4 = m4 at *
  generalize mS I 5 = m5 at *
  generalize mS I 6 = m6 at *
  generalize mS I 7 = m7 at *
  generalize mS I 8 = m8 at *
  clear n0 n1 n2 n3 n4 n5 n6 n7 s0 s1 s2 s3 s4 s5 s6 s7 s8 q0 q1 q2 q3 q4 q5 q6 q7 q hp hb hw e0 z0
  have hm0 : 0 ≤ m0 := by rcases c0 with rfl | rfl | rfl <;> decide
  have e1 : max 0 m0 = m0 := by omega
  rw [e1]
  clear c0 c4 e1 hm0
  have x1 : max (max (max (max w m1) m2) m3) p3 = max (max (max (max w p3) m1) m2) m3 := by omega
  have x2 : max (max (max (max m0 m1) m2) m3) m4 = max (max (max (max m0 m4) m1) m2) m3 := by omega
  rw [x1, x2, key]
end Go.Proofs.YtmfkggngjeolcaaGreatDoor
/- Bundle: the header is taken (written by parts/gen_dchdr.py). Own work. -/
namespace Go.Proofs.YtmfkggngjeolcaaGreatDoor
open Go.RowKit Bn Dc
set_option linter.unusedVariables false
set_option linter.unusedSimpArgs false
section
variable {B kb : Nat} {raw : Value} {im en : List Value} {q : Pt} {p g : Nat} {w0 : World} {s : D} {w w' : World}
end
end Go.Proofs.YtmfkggngjeolcaaGreatDoor
/- Bundle: all that is read; the image that is told so far. Own work. -/
namespace Go.Proofs.YtmfkggngjeolcaaGreatDoor
open Go.RowKit Bn Dc
set_option linter.unusedVariables false
set_option linter.unusedSimpArgs false
namespace Dc
def zeroI : Im := ⟨0, [], [], [], [], [], [], [], [], 0, 0, []⟩
/-- what is told so far -/
structure A where
  J : Im
  why : Int
  sec : Int
  ad : Int
def secD (k : Nat) (q : Pt) (J : Im) (s : D) : Im × D :=
  match k with
  | 1 => ({ J with rams := (busD q s).1.rams, devs := (busD q s).1.devs }, (busD q s).2)
  | 2 => ({ J with subs := (listD (tenD q) (manyD q s).1 (manyD q s).2).1 }, (listD (tenD q) (manyD q s).1 (manyD q s).2).2)
  | 3 => ({ J with ports := (portsD q J.devs.length s).1 }, (portsD q J.devs.length s).2)
  | 4 => ({ J with regs := (listD (gdD q) (manyD q s).1 (manyD q s).2).1 }, (listD (gdD q) (manyD q s).1 (manyD q s).2).2)
  | 5 => ({ J with chs := (listD (chD q) (manyD q s).1 (manyD q s).2).1 }, (listD (chD q) (manyD q s).1 (manyD q s).2).2)
  | 6 => ({ J with irqs := (listD (iqD q) (manyD q s).1 (manyD q s).2).1 }, (listD (iqD q) (manyD q s).1 (manyD q s).2).2)
  | 7 => ({ J with plans := (plansD q s).1.plans, master := (plansD q s).1.master, start := ((plansD q s).1.start : Int) }, (plansD q s).2)
  | _ => ({ J with tabs := (tabsD q s).1 }, (tabsD q s).2)
def endD (q : Pt) (s : D) : D := formD q (decide (s.rw = 0 ∧ s.pos = q.Z.length)) s.pos s
def qOf (E : Nat → En) (bs : List Nat) (k : Nat) : Pt := ⟨k, (E k).f, (bs.drop (E k).f).take (E k).l⟩
def startD (x : A) : D := ⟨0, 0, x.why, x.sec, x.ad⟩
def partA (E : Nat → En) (bs : List Nat) (k : Nat) (x : A) : A :=
  if x.why ≠ 0 then x else
  ⟨(secD k (qOf E bs k) x.J (startD x)).1, (endD (qOf E bs k) (secD k (qOf E bs k) x.J (startD x)).2).why, (endD (qOf E bs k) (secD k (qOf E bs k) x.J (startD x)).2).sec, (endD (qOf E bs k) (secD k (qOf E bs k) x.J (startD x)).2).ad⟩
def partsA (E : Nat → En) (bs : List Nat) : Nat → A → A
  | 0, x => x
  | k + 1, x => partA E bs (k + 1) (partsA E bs k x)
def hq (bs : List Nat) : Pt := ⟨0, 0, (bs.drop 0).take 160⟩
def hd0 (bs : List Nat) : HdR := hdD (hq bs) ⟨0, 0, 0, 0, 0⟩
def headS (bs : List Nat) : D := sealS (hd0 bs).E bs 8 (dirS (hd0 bs).E bs.length 8 (asksD bs (hd0 bs).x (hd0 bs).s))
def headA (bs : List Nat) : A := ⟨{ zeroI with base := (hd0 bs).x.base }, (endD (hq bs) (headS bs)).why, (endD (hq bs) (headS bs)).sec, (endD (hq bs) (headS bs)).ad⟩
/-- what Decode tells -/
def decA (bs : List Nat) : A := if bs.length < 160 then ⟨zeroI, 10, 0, (bs.length : Int)⟩ else partsA (hd0 bs).E bs 8 (headA bs)
theorem partsA_stop {E : Nat → En} {bs : List Nat} {x : A} {k : Nat} (h : (partsA E bs k x).why ≠ 0) (m : Nat) (hm : k ≤ m) : partsA E bs m x = partsA E bs k x := by
  induction m with
  | zero => rw [show k = 0 by omega]
  | succ m ih =>
    by_cases e : k = m + 1
    · rw [e]
    · rw [partsA, ih (by omega), partA, if_pos h]
end Dc
/-- the cells of the image that is read, and what they lead to -/
structure ImD (w : World) (im : List Value) (J : Im) : Prop where
  base : im[0]? = some (.int .u64 (J.base : Int))
  rams : ∃ v, im[1]? = some v ∧ OwnG 64 2 rgE w 0 v J.rams
  devs : ∃ v, im[2]? = some v ∧ OwnG 64 2 rgE w 0 v J.devs
  subs : ∃ v, im[3]? = some v ∧ OwnG 66 6 tnE w 0 v J.subs
  ports : ∃ v, im[4]? = some v ∧ OwnG 68 1 poE w 0 v J.ports
  regs : ∃ v, im[5]? = some v ∧ OwnG 70 4 gdE w 0 v J.regs
  chs : ∃ v, im[6]? = some v ∧ OwnG 72 5 lkE w 0 v J.chs
  irqs : ∃ v, im[7]? = some v ∧ OwnG 72 5 lkE w 0 v J.irqs
  plans : ∃ v, im[8]? = some v ∧ PlO w v J.plans
  master : im[9]? = some (.int .i64 J.master)
  start : im[10]? = some (.int .i64 J.start)
  tabs : ∃ v, im[11]? = some v ∧ OwnG 80 512 tbE w 0 v J.tabs
theorem ImD.fd {B : Nat} {w w' : World} {im : List Value} {J : Im} (h : ImD w im J) (hf : Fd B w w') : ImD w' im J := by
  obtain ⟨h0, ⟨v1, a1, b1⟩, ⟨v2, a2, b2⟩, ⟨v3, a3, b3⟩, ⟨v4, a4, b4⟩, ⟨v5, a5, b5⟩, ⟨v6, a6, b6⟩, ⟨v7, a7, b7⟩, ⟨v8, a8, b8⟩, h9, h10, ⟨v11, a11, b11⟩⟩ := h
  exact ⟨h0, ⟨v1, a1, b1.fd hf (by decide) (by decide)⟩, ⟨v2, a2, b2.fd hf (by decide) (by decide)⟩, ⟨v3, a3, b3.fd hf (by decide) (by decide)⟩, ⟨v4, a4, b4.fd hf (by decide) (by decide)⟩, ⟨v5, a5, b5.fd hf (by decide) (by decide)⟩, ⟨v6, a6, b6.fd hf (by decide) (by decide)⟩, ⟨v7, a7, b7.fd hf (by decide) (by decide)⟩, ⟨v8, a8, b8.fd hf⟩, h9, h10, ⟨v11, a11, b11.fd hf (by decide) (by decide)⟩⟩
/-- nothing is read -/
def im0 : List Value := [.int .u64 0, .slice none 0 0, .slice none 0 0, .slice none 0 0, .slice none 0 0, .slice none 0 0, .slice none 0 0, .slice none 0 0, .slice none 0 0, .int .i64 0, .int .i64 0, .slice none 0 0]
theorem ImD.zero (w : World) (b : Nat) : ImD w (im0.set 0 (.int .u64 (b : Int))) { zeroI with base := b } :=
  ⟨rfl, ⟨_, rfl, OwnG.nil _ _ _ _ _⟩, ⟨_, rfl, OwnG.nil _ _ _ _ _⟩, ⟨_, rfl, OwnG.nil _ _ _ _ _⟩, ⟨_, rfl, OwnG.nil _ _ _ _ _⟩, ⟨_, rfl, OwnG.nil _ _ _ _ _⟩, ⟨_, rfl, OwnG.nil _ _ _ _ _⟩, ⟨_, rfl, OwnG.nil _ _ _ _ _⟩, ⟨_, rfl, [], OwnG.nil _ _ _ _ _, .nil⟩, rfl, rfl, ⟨_, rfl, OwnG.nil _ _ _ _ _⟩⟩
section
variable {B kb : Nat} {raw : Value} {im en : List Value} {q : Pt} {p g : Nat} {w0 : World} {s : D} {w w' : World} {J : Im}
/-- what a section's reading leaves -/
def SecQ (k : Nat) (B kb : Nat) (raw : Value) (en : List Value) (q : Pt) (p g : Nat) (w0 : World) (J : Im) (s : D) (w' : World) : Prop := ∃ im', ImD w' im' (secD k q J s).1 ∧ Dt B kb raw im' en q p g w0 (secD k q J s).2 w'
end
end Go.Proofs.YtmfkggngjeolcaaGreatDoor
