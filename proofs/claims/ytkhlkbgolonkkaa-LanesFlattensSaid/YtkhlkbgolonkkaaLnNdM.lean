/- LanesNeeds: what the law counts (plain mathematics), and Flatten as it is asked there. Own work. -/
import Derived.Test.YtkhlkbgolonkkaaLnEdg
import Derived.Test.YtkhlkbgolonkkaaLnRow
namespace Go.Proofs.Ytkhlkbgolonkkaa
open Go.RowKit
set_option linter.unusedVariables false
/-- a need that the law lets by -/
def NdOk (m : Nat) (r : R4) : Prop := 1 ≤ r.b ∧ r.b ≤ r.p ∧ r.p ≤ m ∧ m % r.p = 0 ∧ r.s.toList.isEmpty = false
theorem NdOk.wants {m : Nat} {r : R4} (h : NdOk m r) : wantsF m true r = (r.b * (m / r.p), 0) := by
  obtain ⟨h1, h2, h3, h4, h5⟩ := h
  unfold wantsF
  rw [if_neg (by omega), if_neg (by decide), if_neg (by rw [h5]; decide), if_neg (by omega)]
theorem refN_bad {m : Nat} : ∀ (xs : List R4) (l i : Nat), (∀ r ∈ xs, NdOk m r) → (wantN m xs ≤ l → (refF m true l i xs).2 = 0) ∧ (l < wantN m xs → (refF m true l i xs).2 = 93 ∧ (refF m true l i xs).1 < i + xs.length)
  | [], l, i, _ => ⟨fun _ => rfl, fun h => absurd h (by simp [wantN])⟩
  | x :: r, l, i, h => by
    have e := (h x List.mem_cons_self).wants
    unfold refF
    rw [e]
    simp only [ne_eq, not_true_eq_false, if_false, wantN, List.length_cons]
    by_cases h2 : l < x.b * (m / x.p)
    · rw [if_pos h2]
      exact ⟨fun h3 => by omega, fun _ => ⟨rfl, by show i < _; omega⟩⟩
    · rw [if_neg h2]
      obtain ⟨a1, a2⟩ := refN_bad r (l - x.b * (m / x.p)) (i + 1) (fun y hy => h y (List.mem_cons_of_mem _ hy))
      exact ⟨fun h3 => a1 (by omega), fun h3 => by have := a2 (by omega); exact ⟨this.1, by omega⟩⟩
/-- Flatten of needs that the law lets by -/
theorem flat_needs_law {w : World} {v : Value} {xs : List R4} {m : Nat} {q cp : Int} (h : Rn w v xs) (hm0 : 1 ≤ m) (hm : m ≤ 65536) (hx : ∀ r ∈ xs, NdOk m r) : Calls Try.prog 10 #[.int .u64 (m : Int), .agg #[.int .i64 q, .int .u64 cp, .bool true, v]] w fun e w' => Below w.heap.size w w' ∧
    ((m < wantN m xs ∧ ∃ i : Nat, i < xs.length ∧ e = .returned (.tuple #[.slice none 0 0, .int .i64 (i : Int), .int .i64 93])) ∨
     (wantN m xs ≤ m ∧ e = .returned (.tuple #[.slice none 0 0, .int .i64 (-1), .int .i64 4])) ∨
     (wantN m xs ≤ m ∧ ∃ ws cs rs u, e = .returned (.tuple #[u, .int .i64 0, .int .i64 0]) ∧ OwnS w' w.heap.size u rs ∧ EdJ m xs ws cs rs ∧ endF rs = (m : Int) ∧ rs.length ≤ 4096)) := by
  obtain ⟨a1, a2⟩ := refN_bad xs m 0 hx
  refine (flatten_needs h hm0 hm).mono ?_
  rintro e w' ⟨hb, ⟨hr, rfl⟩ | ⟨hr, ws, cs, rs, hed, hend, ⟨hl, rfl⟩ | ⟨hl, u, rfl, ho⟩⟩⟩
  · have hs : m < wantN m xs := Classical.byContradiction fun hc => hr (a1 (by omega))
    obtain ⟨b1, b2⟩ := a2 hs
    exact ⟨hb, .inl ⟨hs, _, by rw [Nat.zero_add] at b2; exact b2, by rw [b1]⟩⟩
  · have hs : wantN m xs ≤ m := Classical.byContradiction fun hc => by have := (a2 (by omega)).1; omega
    exact ⟨hb, .inr (.inl ⟨hs, rfl⟩)⟩
  · have hs : wantN m xs ≤ m := Classical.byContradiction fun hc => by have := (a2 (by omega)).1; omega
    obtain ⟨⟨b1, b2, b3⟩, _⟩ := refN_ok hm _ _ _ hr
    exact ⟨hb, .inr (.inr ⟨hs, ws, cs, rs, u, rfl, ho, ed_edf b1 b2 hm0 (by have := b3 0; omega) hed, hend, hl⟩)⟩
theorem lr_le (xs : List R4) : ∀ (t i : Nat), Lr xs t i ≤ bN xs i
  | 0, i => Nat.le_refl _
  | t + 1, i => by
    show (if (t + 1) % pN xs i = 0 then bN xs i else Lr xs t i - (if bestI (Lr xs t) (dueT xs t) xs.length = some i then 1 else 0)) ≤ _
    have := lr_le xs t i
    split
    · exact Nat.le_refl _
    · omega
/-- what a need has had, ahead of a tick -/
def Db (xs : List R4) : Nat → Nat → Nat
  | 0, _ => 0
  | t + 1, i => bN xs i - (Lr xs t i - (if bestT xs t = some i then 1 else 0))
/-- what it has had when its period has begun -/
def Da (xs : List R4) (t i : Nat) : Nat := bN xs i - Lr xs t i
theorem db_same {xs : List R4} {t i : Nat} (h : ¬ t % pN xs i = 0) : Db xs t i = Da xs t i := by
  cases t with
  | zero => simp at h
  | succ t =>
    show bN xs i - (Lr xs t i - (if bestT xs t = some i then 1 else 0)) = bN xs i - (if (t + 1) % pN xs i = 0 then bN xs i else Lr xs t i - (if bestT xs t = some i then 1 else 0))
    rw [if_neg h]
theorem da_zero {xs : List R4} {t i : Nat} (h : t % pN xs i = 0) : Da xs t i = 0 := by
  cases t with
  | zero => simp [Da, Lr]
  | succ t =>
    show bN xs i - (if (t + 1) % pN xs i = 0 then bN xs i else _) = 0
    rw [if_pos h]
    omega
theorem db_full {m : Nat} {xs : List R4} {ws cs : List J4} {rs : List S3} (J : EdJ m xs ws cs rs) {i : Nat} (hi : i < xs.length) {t : Nat} (h0 : 0 < t) (ht : (t : Int) ≤ endF rs) (h : t % pN xs i = 0) : Db xs t i = bN xs i := by
  rw [pN_eq xs i hi] at h
  have h1 := J.met i hi t h0 ht h
  obtain ⟨s, rfl⟩ : ∃ s, t = s + 1 := ⟨t - 1, by omega⟩
  rw [Nat.add_sub_cancel] at h1
  show bN xs i - (Lr xs s i - (if bestT xs s = some i then 1 else 0)) = bN xs i
  rw [h1]
  omega
theorem db_next_miss {xs : List R4} {t i : Nat} (h : bestT xs t ≠ some i) : Db xs (t + 1) i = Da xs t i := by
  show bN xs i - (Lr xs t i - (if bestT xs t = some i then 1 else 0)) = bN xs i - Lr xs t i
  rw [if_neg h]
  rfl
theorem db_next_hit {xs : List R4} {t i : Nat} (h : bestT xs t = some i) : Db xs (t + 1) i = Da xs t i + 1 := by
  have h1 := ((bestI_spec (Lr xs t) (dueT xs t) xs.length).2 i h).2.1
  have h2 := lr_le xs t i
  show bN xs i - (Lr xs t i - (if bestT xs t = some i then 1 else 0)) = bN xs i - Lr xs t i + 1
  rw [if_pos h]
  omega
theorem da_lt {xs : List R4} {t i : Nat} : Da xs t i < bN xs i ↔ 0 < Lr xs t i := by
  have h2 := lr_le xs t i
  unfold Da
  omega
/-- the slot of a tick -/
theorem find_at : ∀ (rs : List S3) (t : Int) (k : Nat) (hk : k < rs.length), (∀ j (hj : j < rs.length), j < k → rs[j].t ≤ t) → t < rs[k].t → (findS t rs).1 = rs[k].s
  | x :: r, t, 0, _, _, h => by
    have h : t < x.t := h
    show (if t < x.t then (x.s, x.t - t) else findS t r).1 = x.s
    rw [if_pos h]
  | x :: r, t, k + 1, hk, hj, h => by
    have h0 := hj 0 (by simp) (by omega)
    simp only [List.getElem_cons_zero] at h0
    show (if t < x.t then (x.s, x.t - t) else findS t r).1 = _
    rw [if_neg (by omega)]
    exact find_at r t k (by simpa using hk) (fun j hj' hlt => by have := hj (j + 1) (by simpa using hj') (by omega); simpa using this) (by simpa using h)
theorem last_to {rs : List S3} {m : Nat} (he : endF rs = (m : Int)) (hm : 1 ≤ m) : ∃ h : 0 < rs.length, rs[rs.length - 1].t = (m : Int) := by
  rcases List.eq_nil_or_concat rs with rfl | ⟨ys, l, rfl⟩
  · have : (0 : Int) = (m : Int) := he
    omega
  · rw [List.concat_eq_append] at *
    have : endF (ys ++ [l]) = l.t := by simp [endF]
    refine ⟨by simp, ?_⟩
    simp only [List.length_append, List.length_singleton, Nat.add_sub_cancel, List.getElem_concat_length]
    rw [← this, he]
end Go.Proofs.Ytkhlkbgolonkkaa
