import Derived.Test.YtlplbbnicfeoaaaGreatPq03
/- Pages: the entries that the builder makes. Own work. -/
namespace Go.Proofs.YtlplbbnicfeoaaaGreat
open Go.RowKit Wk
set_option linter.unusedVariables false
set_option maxRecDepth 20000
theorem fr_of {F k : Nat} (hF : F % 4096 = 0) (hl : F < 4294967296) (hk : k < 16) : fr (F + k) = F ∧ (F + k) % 16 = k := by
  unfold fr
  omega
theorem fl_lt (b w x : Bool) : 1 + nbit w 2 + nbit x 4 + nbit b 8 < 16 := by cases b <;> cases w <;> cases x <;> decide
theorem bits_of {F : Nat} (hF : F % 4096 = 0) (b w x : Bool) : bit1 (F + (1 + nbit w 2 + nbit x 4 + nbit b 8)) = w ∧ bit2 (F + (1 + nbit w 2 + nbit x 4 + nbit b 8)) = x ∧ bit3 (F + (1 + nbit w 2 + nbit x 4 + nbit b 8)) = b ∧ (F + (1 + nbit w 2 + nbit x 4 + nbit b 8)) % 2 = 1 ∧ (F + (1 + nbit w 2 + nbit x 4 + nbit b 8)) / 2 % 8 = (1 + nbit w 2 + nbit x 4 + nbit b 8) / 2 ∧ (F + (1 + nbit w 2 + nbit x 4 + nbit b 8)) / 2 % 4 = (1 + nbit w 2 + nbit x 4 + nbit b 8) / 2 % 4 := by
  obtain ⟨q, rfl⟩ : ∃ q, F = 16 * q := ⟨F / 16, by omega⟩
  clear hF
  unfold bit1 bit2 bit3
  have e1 : ∀ k, k < 16 → (16 * q + k) / 2 % 2 = k / 2 % 2 := fun k hk => by omega
  have e2 : ∀ k, k < 16 → (16 * q + k) / 4 % 2 = k / 4 % 2 := fun k hk => by omega
  have e3 : ∀ k, k < 16 → (16 * q + k) / 8 % 2 = k / 8 % 2 := fun k hk => by omega
  have e4 : ∀ k, k < 16 → (16 * q + k) % 2 = k % 2 := fun k hk => by omega
  have e5 : ∀ k, k < 16 → (16 * q + k) / 2 % 8 = k / 2 := fun k hk => by omega
  have e6 : ∀ k, k < 16 → (16 * q + k) / 2 % 4 = k / 2 % 4 := fun k hk => by omega
  rw [e1 _ (fl_lt b w x), e2 _ (fl_lt b w x), e3 _ (fl_lt b w x), e4 _ (fl_lt b w x), e5 _ (fl_lt b w x), e6 _ (fl_lt b w x)]
  cases b <;> cases w <;> cases x <;> decide
theorem bare_of {F : Nat} (hF : F % 4096 = 0) (hl : F < 4294967296) (b w x : Bool) : bare (F + (1 + nbit w 2 + nbit x 4 + nbit b 8)) = true := by
  obtain ⟨f1, f2⟩ := fr_of hF hl (fl_lt b w x)
  unfold bare
  rw [f1, f2]
  exact beq_self_eq_true _
/-- the entry that names a table, at level 0 or 1 -/
theorem ent_tab {F : Nat} (hF : F % 4096 = 0) (hl : F < 4294967296) {l : Int} (h : l = 0 ∨ l = 1) : entB (F + 1) l = ((F, true, false, false, false), 0) := by
  obtain ⟨b1, b2, b3, b4, b5, b6⟩ := bits_of hF false false false
  have hb := bare_of hF hl false false false
  obtain ⟨f1, f2⟩ := fr_of hF hl (fl_lt false false false)
  have e : 1 + nbit false 2 + nbit false 4 + nbit false 8 = 1 := rfl
  rw [e] at b1 b2 b3 b4 b5 b6 hb f1 f2
  unfold entB
  rw [if_neg (by omega), if_neg (by omega)]
  have hs : sound (F + 1) l = true := by
    unfold sound
    rw [hb, b3, b5, b6]
    rcases h with rfl | rfl <;> rfl
  rw [if_pos hs]
  unfold says
  rw [f1, b1, b2, b3]
  rcases h with rfl | rfl <;> rfl
/-- the entry of a big leaf -/
theorem ent_big {F : Nat} (hF : F % 2097152 = 0) (hl : F < 4294967296) (w x : Bool) : entB (F + (1 + nbit w 2 + nbit x 4 + nbit true 8)) 1 = ((F, false, true, w, x), 0) := by
  have h4 : F % 4096 = 0 := by omega
  obtain ⟨b1, b2, b3, b4, b5, b6⟩ := bits_of h4 true w x
  have hb := bare_of h4 hl true w x
  obtain ⟨f1, f2⟩ := fr_of h4 hl (fl_lt true w x)
  generalize F + (1 + nbit w 2 + nbit x 4 + nbit true 8) = e at *
  unfold entB
  rw [if_neg (by omega), if_neg (by omega)]
  have hs : sound e 1 = true := by
    unfold sound
    rw [hb, b3, f1, hF]
    rfl
  rw [if_pos hs]
  unfold says
  rw [f1, b1, b2, b3]
  rfl
/-- the entry of a page -/
theorem ent_page {F : Nat} (hF : F % 4096 = 0) (hl : F < 4294967296) (w x : Bool) : entB (F + (1 + nbit w 2 + nbit x 4 + nbit false 8)) 2 = ((F, false, false, w, x), 0) := by
  obtain ⟨b1, b2, b3, b4, b5, b6⟩ := bits_of hF false w x
  have hb := bare_of hF hl false w x
  obtain ⟨f1, f2⟩ := fr_of hF hl (fl_lt false w x)
  generalize F + (1 + nbit w 2 + nbit x 4 + nbit false 8) = e at *
  unfold entB
  rw [if_neg (by omega), if_neg (by omega)]
  have hs : sound e 2 = true := by
    unfold sound
    rw [hb, b3]
    rfl
  rw [if_pos hs]
  unfold says
  rw [f1, b1, b2, b3]
  rfl
theorem mk_of {x : Ent} {l : Int} {e : Nat} (hl : ¬ (l < 0 ∨ 2 < l)) (hr : rawE x = e) (h : entB e l = (x, 0)) : makeB x l = (e, 0) := by
  unfold makeB
  rw [if_neg hl, hr, if_pos h]
theorem mk_tab {F : Nat} (hF : F % 4096 = 0) (hl : F < 4294967296) {l : Int} (h : l = 0 ∨ l = 1) : makeB (F, true, false, false, false) l = (F + 1, 0) := mk_of (by omega) (raw_page hF false false false) (ent_tab hF hl h)
theorem mk_big {F : Nat} (hF : F % 2097152 = 0) (hl : F < 4294967296) (w x : Bool) : makeB (F, false, true, w, x) 1 = (F + (1 + nbit w 2 + nbit x 4 + nbit true 8), 0) := mk_of (by omega) (raw_page (by omega) true w x) (ent_big hF hl w x)
theorem mk_page {F : Nat} (hF : F % 4096 = 0) (hl : F < 4294967296) (w x : Bool) : makeB (F, false, false, w, x) 2 = (F + (1 + nbit w 2 + nbit x 4 + nbit false 8), 0) := mk_of (by omega) (raw_page hF false w x) (ent_page hF hl w x)
theorem ent_none (l : Int) (h : l = 0 ∨ l = 1 ∨ l = 2) : entB 0 l = (no, 41) := by
  unfold entB
  rw [if_neg (by omega), if_pos rfl]
end Go.Proofs.YtlplbbnicfeoaaaGreat
