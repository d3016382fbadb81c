/- Lanes: how often a subject runs in a window; Flatten of any lane (for LanesWindows). Own work. -/
import Derived.Test.YtmgekglndjigiaaLnEdg
import Derived.Test.YtmgekglndjigiaaLnBud
namespace Go.Proofs.Ytmgekglndjigiaa
open Go.RowKit
set_option linter.unusedVariables false
def cnt (P : Nat → Bool) (f : Nat) : Nat → Nat
  | 0 => 0
  | k + 1 => cnt P f k + if P (f + k) = true then 1 else 0
theorem cnt_le (P : Nat → Bool) (f : Nat) : ∀ k, cnt P f k ≤ k
  | 0 => Nat.le_refl _
  | k + 1 => by
    have := cnt_le P f k
    unfold cnt
    split <;> omega
theorem cnt_add (P : Nat → Bool) (f a : Nat) : ∀ b, cnt P f (a + b) = cnt P f a + cnt P (f + a) b
  | 0 => rfl
  | b + 1 => by
    show cnt P f (a + b) + (if P (f + (a + b)) = true then 1 else 0) = _
    rw [cnt_add P f a b, ← Nat.add_assoc f a b]
    simp only [cnt]
    omega
theorem cnt_const (P : Nat → Bool) (c : Bool) (f : Nat) : ∀ k, (∀ j, j < k → P (f + j) = c) → cnt P f k = if c = true then k else 0
  | 0, _ => by simp [cnt]
  | k + 1, h => by
    simp only [cnt]
    rw [cnt_const P c f k fun j hj => h j (by omega), h k (by omega)]
    split <;> omega
theorem cnt_congr (P Q : Nat → Bool) (f : Nat) : ∀ k, (∀ j, j < k → P (f + j) = Q (f + j)) → cnt P f k = cnt Q f k
  | 0, _ => rfl
  | k + 1, h => by
    simp only [cnt]
    rw [cnt_congr P Q f k fun j hj => h j (by omega), h k (by omega)]
theorem cnt_next (P : Nat → Bool) (f k : Nat) (h : P (f + k) = P f) : cnt P (f + 1) k = cnt P f k := by
  have h1 := cnt_add P f 1 k
  have h2 : cnt P f (1 + k) = cnt P f k + if P (f + k) = true then 1 else 0 := by
    rw [Nat.add_comm]
    rfl
  have h3 : cnt P f 1 = if P f = true then 1 else 0 := by simp [cnt]
  rw [h] at h2
  omega
theorem cnt_window (P : Nat → Bool) (m : Nat) (h : ∀ t, P (t + m) = P t) : ∀ f, cnt P f m = cnt P 0 m
  | 0 => rfl
  | f + 1 => by rw [cnt_next P f m (h f), cnt_window P m h f]
theorem bud_cnt (s : ByteArray) : ∀ (xs : List S3) (e : Nat) (p : Option ByteArray) (a : Int), Gd (e : Int) p xs → endE (e : Int) xs ≤ 65536 → budF s a xs = a + (cnt (fun t => s.toList == (findS (t : Int) xs).1.toList) e ((endE (e : Int) xs).toNat - e) : Int)
  | [], e, p, a, _, _ => by
    have : (endE (e : Int) []).toNat - e = 0 := by show ((e : Int)).toNat - e = 0; omega
    rw [this]
    simp [budF, cnt]
  | x :: r, e, p, a, h, hle => by
    have h1 := gd_lt h.1
    have h2 := gd_le r _ _ h.2
    have he : endE (e : Int) (x :: r) = endE x.t r := rfl
    rw [he] at hle ⊢
    obtain ⟨X, hX⟩ : ∃ X : Nat, x.t = (X : Int) := ⟨x.t.toNat, by omega⟩
    have hle' : endE (X : Int) r ≤ 65536 := by rw [← hX]; exact hle
    have ih := bud_cnt s r X (some x.s) (if goodB s x then a + (x.t - x.f) else a) (by rw [← hX]; exact h.2) hle'
    have e1 : (endE x.t r).toNat - e = (X - e) + ((endE x.t r).toNat - X) := by omega
    show budF s (if goodB s x then a + (x.t - x.f) else a) r = _
    rw [ih, e1, cnt_add, show e + (X - e) = X by omega, cnt_const _ (s.toList == x.s.toList) e (X - e) fun j hj => ?_, cnt_congr (fun t => s.toList == (findS (t : Int) (x :: r)).1.toList) (fun t => s.toList == (findS (t : Int) r).1.toList) X _ fun j hj => ?_, ← hX]
    · by_cases hs : (s.toList == x.s.toList) = true
      · have hg : goodB s x = true := by
          unfold goodB
          have : (x.s.toList == s.toList) = true := by rw [beq_iff_eq] at hs ⊢; exact hs.symm
          simp only [this, Bool.true_and, Bool.and_eq_true, decide_eq_true_eq]
          omega
        rw [if_pos hg, if_pos hs]
        omega
      · have hg : ¬ goodB s x = true := by
          unfold goodB
          have : (x.s.toList == s.toList) = false := by
            cases hb : (x.s.toList == s.toList) with
            | false => rfl
            | true =>
              rw [beq_iff_eq] at hb
              exact absurd (beq_iff_eq.2 hb.symm) hs
          simp [this]
        rw [if_neg hg, if_neg hs]
        omega
    · show (s.toList == (findS ((X + j : Nat) : Int) (x :: r)).1.toList) = _
      rw [show findS ((X + j : Nat) : Int) (x :: r) = findS ((X + j : Nat) : Int) r from by
        show (if ((X + j : Nat) : Int) < x.t then _ else _) = _
        rw [if_neg (by omega)]]
    · show (s.toList == (findS ((e + j : Nat) : Int) (x :: r)).1.toList) = _
      rw [show findS ((e + j : Nat) : Int) (x :: r) = (x.s, x.t - ((e + j : Nat) : Int)) from by
        show (if ((e + j : Nat) : Int) < x.t then _ else _) = _
        rw [if_pos (by omega)]]
/-- a window of the major frame: a subject runs as often as its budget says -/
theorem window {m : Nat} {rs : List S3} (hg : Gd 0 none rs) (he : endF rs = (m : Int)) (hm0 : 1 ≤ m) (hm : m ≤ 65536) (s : ByteArray) (f : Nat) : budF s 0 rs = (cnt (fun t => s.toList == (schedF (t : Int) rs).1.toList) f m : Int) := by
  have hr : rowF 0 none rs = (m : Int) := by rw [rowF_gd _ _ _ hg, endE_endF, he]
  have ee : endE 0 rs = (m : Int) := by rw [endE_endF, he]
  have hs : ∀ t : Nat, schedF (t : Int) rs = findS (((t % m : Nat)) : Int) rs := fun t => by
    unfold schedF
    rw [hr, if_neg (by omega)]
    unfold tickF
    rw [if_neg (by omega)]
    rfl
  rw [cnt_window _ m (fun t => by simp only [hs, Nat.add_mod_right]) f]
  have h1 := bud_cnt s rs 0 none 0 hg (by rw [show ((0 : Nat) : Int) = 0 from rfl, ee]; omega)
  rw [show ((0 : Nat) : Int) = 0 from rfl, ee] at h1
  rw [h1, show (m : Int).toNat - 0 = m by omega, Int.zero_add, cnt_congr (fun t => s.toList == (findS (t : Int) rs).1.toList) (fun t => s.toList == (schedF (t : Int) rs).1.toList) 0 m fun j hj => ?_]
  simp only [hs, Nat.zero_add]
  rw [Nat.mod_eq_of_lt hj]
/-- Flatten of any lane -/
theorem flatten_taken {w : World} {v : Value} {xs : List R4} {m : Nat} {q cp : Int} {nd : Bool} (h : Rn w v xs) : Calls Try.prog 8 #[.int .u64 (m : Int), .agg #[.int .i64 q, .int .u64 cp, .bool nd, v]] w fun e w' => Below w.heap.size w w' ∧
    ((∃ at' er : Int, er ≠ 0 ∧ e = .returned (.tuple #[.slice none 0 0, .int .i64 at', .int .i64 er])) ∨
     (∃ u rs, e = .returned (.tuple #[u, .int .i64 0, .int .i64 0]) ∧ OwnS w' w.heap.size u rs ∧ Gd 0 none rs ∧ endF rs = (m : Int) ∧ rs.length ≤ 4096 ∧ 1 ≤ m ∧ m ≤ 65536)) := by
  by_cases hm : m = 0 ∨ 65536 < m
  · refine (flatten_unframed hm).mono ?_
    rintro e w' ⟨rfl, hb⟩
    exact ⟨hb, .inl ⟨_, _, by decide, rfl⟩⟩
  · have h0 : 1 ≤ m := by omega
    have h1 : m ≤ 65536 := by omega
    cases nd with
    | false =>
      refine (flatten_runs h h0 h1).mono ?_
      rintro e w' ⟨hb, ⟨hr, rfl⟩ | ⟨hr, hl, rfl⟩ | ⟨hr, hl, u, rfl, ho⟩⟩
      · exact ⟨hb, .inl ⟨_, _, hr, rfl⟩⟩
      · exact ⟨hb, .inl ⟨_, _, by decide, rfl⟩⟩
      · obtain ⟨a1, _, _⟩ := refF_ok _ _ _ hr
        have e0 : endF [] = 0 := rfl
        obtain ⟨k1, _, _⟩ := turn_all xs [] trivial (by rw [e0]; omega)
        have ee := turnF_end xs []
        rw [e0] at ee
        obtain ⟨g1, _, _⟩ := adds_gd (s := sN) (n := (m : Int) - (sumN xs : Int)) k1 (by omega)
        have ef := adds_end (turnF [] xs) sN ((m : Int) - (sumN xs : Int))
        exact ⟨hb, .inr ⟨u, _, rfl, ho, g1, by show endF (adds (turnF [] xs) sN ((m : Int) - (sumN xs : Int))) = _; omega, hl, h0, h1⟩⟩
    | true =>
      refine (flatten_needs h h0 h1).mono ?_
      rintro e w' ⟨hb, ⟨hr, rfl⟩ | ⟨hr, ws, cs, rs, hed, hend, ⟨hl, rfl⟩ | ⟨hl, u, rfl, ho⟩⟩⟩
      · exact ⟨hb, .inl ⟨_, _, hr, rfl⟩⟩
      · exact ⟨hb, .inl ⟨_, _, by decide, rfl⟩⟩
      · obtain ⟨⟨a1, a2, a3⟩, _⟩ := refN_ok h1 _ _ _ hr
        have J := ed_edf a1 a2 h0 (by have := a3 0; omega) hed
        exact ⟨hb, .inr ⟨u, rs, rfl, ho, J.gd, hend, hl, h0, h1⟩⟩
end Go.Proofs.Ytmgekglndjigiaa
