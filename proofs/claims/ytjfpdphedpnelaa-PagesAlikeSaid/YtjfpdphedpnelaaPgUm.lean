/- Pages: the builder's tables, row by row. Own work. -/
import Derived.Test.YtjfpdphedpnelaaPgUn
namespace Go.Proofs.Ytjfpdphedpnelaa
open Go.RowKit Wk
set_option linter.unusedVariables false
set_option maxRecDepth 20000
/-- all that there is lies below t -/
structure Up (t : Nat) (s : Bst) : Prop where
  u0 : s.n0 ≠ 0 → (s.n0 - 1) * 1073741824 < t
  u1 : s.n1 ≠ 0 → (s.n1 - 1) * 2097152 < t
  l1 : ∀ b, s.L1 b ≠ 0 → (b + 1) * 2097152 ≤ t
  l2 : ∀ c, s.L2 c ≠ 0 → (c + 1) * 4096 ≤ t
theorem up0 : Up 0 bst0 := ⟨fun h => absurd rfl h, fun h => absurd rfl h, fun _ h => absurd rfl h, fun _ h => absurd rfl h⟩
theorem Up.mono {t t' : Nat} {s : Bst} (h : Up t s) (ht : t ≤ t') : Up t' s := ⟨fun e => Nat.lt_of_lt_of_le (h.u0 e) ht, fun e => Nat.lt_of_lt_of_le (h.u1 e) ht, fun b e => Nat.le_trans (h.l1 b e) ht, fun b e => Nat.le_trans (h.l2 b e) ht⟩
theorem step1_n0 {base t : Nat} {s : Bst} (h : Up t s) {v : Nat} (hv : t ≤ v) : (step1 base s v).n0 = v / 1073741824 + 1 := by
  unfold step1
  by_cases hk : v / 1073741824 < s.n0
  · rw [if_pos hk]
    have := h.u0 (by omega)
    omega
  · rw [if_neg hk]
theorem step1_rest {base : Nat} {s : Bst} {v : Nat} : (step1 base s v).n1 = s.n1 ∧ (step1 base s v).a2 = s.a2 ∧ (step1 base s v).L1 = s.L1 ∧ (step1 base s v).L2 = s.L2 ∧ (step1 base s v).B = s.B ∧ (step1 base s v).nx = s.nx + (if v / 1073741824 < s.n0 then 0 else 1) := by
  unfold step1
  split <;> simp
theorem step2_rest {base : Nat} {s : Bst} {v : Nat} : (step2 base s v).n0 = s.n0 ∧ (step2 base s v).a1 = s.a1 ∧ (step2 base s v).L1 = s.L1 ∧ (step2 base s v).L2 = s.L2 ∧ (step2 base s v).A = s.A ∧ (step2 base s v).nx = s.nx + (if v / 2097152 < s.n1 then 0 else 1) := by
  unfold step2
  split <;> simp
theorem step2_n1 {base t : Nat} {s : Bst} (h : s.n1 ≠ 0 → (s.n1 - 1) * 2097152 < t) {v : Nat} (hv : t ≤ v) : (step2 base s v).n1 = v / 2097152 + 1 := by
  unfold step2
  by_cases hk : v / 2097152 < s.n1
  · rw [if_pos hk]
    have := h (by omega)
    omega
  · rw [if_neg hk]
theorem Up.L1z {t : Nat} {s : Bst} (h : Up t s) {v : Nat} (hv : t ≤ v) : s.L1 (v / 2097152) = 0 := by
  by_cases e : s.L1 (v / 2097152) = 0
  · exact e
  · have := h.l1 _ e
    omega
theorem Up.n1_le {t : Nat} {s : Bst} (h : Up t s) {v : Nat} (hv : t ≤ v) : s.n1 ≤ v / 2097152 + 1 := by
  by_cases e : s.n1 = 0
  · omega
  · have := h.u1 e
    omega
theorem leafS_rest {s : Bst} {u : Un} : (leafS s u).n0 = s.n0 ∧ (leafS s u).n1 = s.n1 ∧ (leafS s u).a1 = s.a1 ∧ (leafS s u).a2 = s.a2 ∧ (leafS s u).nx = s.nx := by
  unfold leafS
  split <;> simp
/-- one leaf more -/
theorem stepU_good {base t : Nat} {s : Bst} (h : Cl base s) (hu : Up t s) {u : Un} (ht : t ≤ u.v) (ha : u.v % u.len = 0) (he : u.v + u.len ≤ 549755813888) : Cl base (stepU base s u) ∧ Up (u.v + u.len) (stepU base s u) := by
  have hv : u.v < 549755813888 := by have : 0 < u.len := by unfold Un.len; split <;> omega
                                     omega
  have c1 := h.step1 hv
  have n0 := step1_n0 (base := base) hu ht
  obtain ⟨r1, r2, r3, r4, r5, _⟩ := step1_rest (base := base) (s := s) (v := u.v)
  unfold stepU downS
  by_cases hb : u.big = true
  · rw [if_pos hb]
    have hl : u.len = 2097152 := by unfold Un.len; rw [if_pos hb]
    rw [hl] at ha he ⊢
    have hn1 : s.n1 ≤ u.v / 2097152 := by
      by_cases e : s.n1 = 0
      · omega
      · have := hu.u1 e
        omega
    refine ⟨c1.leaf1 hb n0.symm (by rw [r1]; exact hn1), ?_⟩
    obtain ⟨e1, e2, _⟩ := leafS_rest (s := step1 base s u.v) (u := u)
    refine ⟨fun _ => ?_, fun hn => ?_, fun b hz => ?_, fun c hz => ?_⟩
    · rw [e1, n0]; omega
    · rw [e2, r1] at hn ⊢
      have := hu.u1 hn
      omega
    · unfold leafS at hz
      rw [if_pos hb] at hz
      simp only [putM] at hz
      split at hz
      · omega
      · rw [r3] at hz
        have := hu.l1 b hz
        omega
    · unfold leafS at hz
      rw [if_pos hb] at hz
      simp only at hz
      rw [r4] at hz
      have := hu.l2 c hz
      omega
  · rw [if_neg hb]
    have hl : u.len = 4096 := by unfold Un.len; rw [if_neg hb]
    rw [hl] at ha he ⊢
    have c2 := c1.step2 n0.symm (by rw [r3]; exact hu.L1z ht)
    have n1 := step2_n1 (base := base) (s := step1 base s u.v) (t := t) (by rw [r1]; exact hu.u1) ht
    obtain ⟨q1, q2, q3, q4, q5, _⟩ := step2_rest (base := base) (s := step1 base s u.v) (v := u.v)
    refine ⟨c2.leaf2 hb n1.symm, ?_⟩
    obtain ⟨e1, e2, _⟩ := leafS_rest (s := step2 base (step1 base s u.v) u.v) (u := u)
    refine ⟨fun _ => ?_, fun hn => ?_, fun b hz => ?_, fun c hz => ?_⟩
    · rw [e1, q1, n0]; omega
    · rw [e2, n1]; omega
    · unfold leafS at hz
      rw [if_neg hb] at hz
      simp only at hz
      rw [q3, r3] at hz
      have := hu.l1 b hz
      omega
    · unfold leafS at hz
      rw [if_neg hb] at hz
      simp only [putM] at hz
      split at hz
      · omega
      · rw [q4, r4] at hz
        have := hu.l2 c hz
        omega
theorem unitsN_succ (x : L6) (i : Nat) : unitsN x (i + 1) = unitsN x i ++ [unitAt x i] := by simp [unitsN, List.range_succ]
theorem buildU_app (base : Nat) (s : Bst) (us vs : List Un) : buildU base s (us ++ vs) = buildU base (buildU base s us) vs := by simp [buildU, List.foldl_append]
theorem buildU_succ (base : Nat) (s : Bst) (x : L6) (i : Nat) : buildU base s (unitsN x (i + 1)) = stepU base (buildU base s (unitsN x i)) (unitAt x i) := by rw [unitsN_succ, buildU_app]; rfl
theorem unitF_cases (x : L6) : (x.big = true ∧ unitF x = 2097152) ∨ (x.big = false ∧ unitF x = 4096) := by
  unfold unitF
  cases x.big <;> simp
theorem unitAt_len (x : L6) (i : Nat) : (unitAt x i).len = unitF x := rfl
theorem cntU_mul {x : L6} (h : aloneF x = 0) : cntU x * unitF x = x.n.toNat * 4096 ∧ 1 ≤ cntU x := by
  obtain ⟨h1, _, _, _, _, h6⟩ := aloneF_zero h
  unfold cntU
  rcases unitF_cases x with ⟨hb, hu⟩ | ⟨hb, hu⟩
  · have := h6 hb
    rw [hu]
    omega
  · rw [hu]
    omega
/-- the first leaves of a row -/
theorem row_good {base t : Nat} {s : Bst} {x : L6} (hx : aloneF x = 0) (ht : t ≤ x.v) (h : Cl base s) (hu : Up t s) : ∀ i, i ≤ cntU x → Cl base (buildU base s (unitsN x i)) ∧ Up (x.v + i * unitF x) (buildU base s (unitsN x i))
  | 0, _ => by
    rw [Nat.zero_mul]
    exact ⟨h, hu.mono ht⟩
  | i + 1, hi => by
    obtain ⟨c, u⟩ := row_good hx ht h hu i (by omega)
    obtain ⟨h1, h2, h3, h4, h5, h6⟩ := aloneF_zero hx
    have hm := (cntU_mul hx).1
    have hle : (i + 1) * unitF x ≤ cntU x * unitF x := Nat.mul_le_mul_right _ hi
    rw [buildU_succ]
    have hs := stepU_good c u (u := unitAt x i) (Nat.le_refl _) ?_ ?_
    · have e : (unitAt x i).v + (unitAt x i).len = x.v + (i + 1) * unitF x := by
        rw [unitAt_len]
        show x.v + i * unitF x + unitF x = _
        rw [Nat.add_mul]
        omega
      rw [e] at hs
      exact hs
    · rw [unitAt_len]
      show (x.v + i * unitF x) % unitF x = 0
      rw [Nat.add_mul_mod_self_right]
      exact h2
    · rw [unitAt_len]
      show x.v + i * unitF x + unitF x ≤ _
      rw [Nat.add_mul] at hle
      omega
def endF : Nat → List L6 → Nat
  | t, [] => t
  | _, x :: xs => endF (x.v + x.n.toNat * 4096) xs
theorem rows_good {base : Nat} : ∀ {xs : List L6} {t : Nat} {s : Bst}, refuF t xs = 0 → Cl base s → Up t s → Cl base (buildU base s (units xs)) ∧ Up (endF t xs) (buildU base s (units xs))
  | [], t, s, _, h, hu => ⟨h, hu⟩
  | x :: xs, t, s, hr, h, hu => by
    obtain ⟨h1, h2, h3⟩ := refuF_zero hr
    obtain ⟨c, u⟩ := row_good h1 h2 h hu (cntU x) (Nat.le_refl _)
    rw [(cntU_mul h1).1] at u
    have e : buildU base s (units (x :: xs)) = buildU base (buildU base s (unitsN x (cntU x))) (units xs) := by
      rw [← buildU_app]; rfl
    rw [e]
    exact rows_good h3 c u
theorem mx (a b : Nat) : ∃ m, max a b = m ∧ ((a ≤ b ∧ m = b) ∨ (b ≤ a ∧ m = a)) := by
  rcases Nat.le_total a b with h | h
  · exact ⟨b, Nat.max_eq_right h, Or.inl ⟨h, rfl⟩⟩
  · exact ⟨a, Nat.max_eq_left h, Or.inr ⟨h, rfl⟩⟩
theorem downS_cnt (base : Nat) (q : Bst) (u : Un) : (downS base q u).n0 = (if u.v / 1073741824 < q.n0 then q.n0 else u.v / 1073741824 + 1) ∧ (downS base q u).n1 = (if u.big = true then q.n1 else if u.v / 2097152 < q.n1 then q.n1 else u.v / 2097152 + 1) ∧ (downS base q u).nx = q.nx + (if u.v / 1073741824 < q.n0 then 0 else 1) + (if u.big = true then 0 else if u.v / 2097152 < q.n1 then 0 else 1) := by
  obtain ⟨r1, _, _, _, _, r6⟩ := step1_rest (base := base) (s := q) (v := u.v)
  obtain ⟨s1, _, _, _, _, s6⟩ := step2_rest (base := base) (s := step1 base q u.v) (v := u.v)
  have e0 : (step1 base q u.v).n0 = (if u.v / 1073741824 < q.n0 then q.n0 else u.v / 1073741824 + 1) := by unfold step1; split <;> rfl
  have e1 : (step2 base (step1 base q u.v) u.v).n1 = (if u.v / 2097152 < q.n1 then q.n1 else u.v / 2097152 + 1) := by
    rw [← r1]
    generalize step1 base q u.v = z
    unfold step2
    split <;> rfl
  unfold downS
  by_cases hb : u.big = true
  · rw [if_pos hb, if_pos hb, if_pos hb]
    exact ⟨e0, r1, r6⟩
  · rw [if_neg hb, if_neg hb, if_neg hb]
    refine ⟨s1.trans e0, e1, ?_⟩
    rw [s6, r6, r1]
theorem up30 {E l n m : Nat} (hl : l = 4096 ∨ l = 2097152) (hE : E % l = 0) (h1 : 1 ≤ E) (hn : n = (E - 1) / 1073741824 + 1) (hm : m ≤ n) : (if E / 1073741824 < n then n else E / 1073741824 + 1) = (E + l - 1) / 1073741824 + 1 ∧ n - m + (if E / 1073741824 < n then 0 else 1) = (E + l - 1) / 1073741824 + 1 - m := by
  rcases hl with rfl | rfl <;> split <;> omega
theorem up21 {E n m : Nat} (hE : E % 4096 = 0) (h1 : 1 ≤ E) (hn : n = (E - 1) / 2097152 + 1) (hm : m ≤ n) : (if E / 2097152 < n then n else E / 2097152 + 1) = (E + 4096 - 1) / 2097152 + 1 ∧ n - m + (if E / 2097152 < n then 0 else 1) = (E + 4096 - 1) / 2097152 + 1 - m := by
  split <;> omega
theorem fs30 {v l n t m : Nat} (hl : l = 4096 ∨ l = 2097152) (hv : v % l = 0) (hn : n = 0 ∨ (n - 1) * 1073741824 < t) (ht : t ≤ v) (hm : (v / 1073741824 ≤ n ∧ m = n) ∨ (n ≤ v / 1073741824 ∧ m = v / 1073741824)) : (if v / 1073741824 < n then n else v / 1073741824 + 1) = (v + l - 1) / 1073741824 + 1 ∧ (if v / 1073741824 < n then 0 else 1) = (v + l - 1) / 1073741824 + 1 - m ∧ m ≤ (v + l - 1) / 1073741824 + 1 := by
  rcases hl with rfl | rfl <;> split <;> omega
theorem fs21 {v n t m : Nat} (hv : v % 4096 = 0) (hn : n = 0 ∨ (n - 1) * 2097152 < t) (ht : t ≤ v) (hm : (v / 2097152 ≤ n ∧ m = n) ∨ (n ≤ v / 2097152 ∧ m = v / 2097152)) : (if v / 2097152 < n then n else v / 2097152 + 1) = (v + 4096 - 1) / 2097152 + 1 ∧ (if v / 2097152 < n then 0 else 1) = (v + 4096 - 1) / 2097152 + 1 - m ∧ m ≤ (v + 4096 - 1) / 2097152 + 1 := by
  split <;> omega
theorem le30 {v a b m : Nat} (h : m ≤ (v + a - 1) / 1073741824 + 1) (hab : a ≤ b) : m ≤ (v + b - 1) / 1073741824 + 1 := by omega
/-- how many tables a row begins -/
theorem row_count {base t : Nat} {s : Bst} {x : L6} (hx : aloneF x = 0) (ht : t ≤ x.v) (hu : Up t s) {m0 m1 : Nat} (hm0 : (x.v / 1073741824 ≤ s.n0 ∧ m0 = s.n0) ∨ (s.n0 ≤ x.v / 1073741824 ∧ m0 = x.v / 1073741824)) (hm1 : (x.v / 2097152 ≤ s.n1 ∧ m1 = s.n1) ∨ (s.n1 ≤ x.v / 2097152 ∧ m1 = x.v / 2097152)) : ∀ i, i < cntU x →
    ((buildU base s (unitsN x (i + 1))).n0 = (x.v + (i + 1) * unitF x - 1) / 1073741824 + 1 ∧ m0 ≤ (buildU base s (unitsN x (i + 1))).n0) ∧
    (buildU base s (unitsN x (i + 1))).n1 = (if x.big = true then s.n1 else (x.v + (i + 1) * unitF x - 1) / 2097152 + 1) ∧ (x.big = false → m1 ≤ (buildU base s (unitsN x (i + 1))).n1) ∧
    (buildU base s (unitsN x (i + 1))).nx = s.nx + ((x.v + (i + 1) * unitF x - 1) / 1073741824 + 1 - m0) + (if x.big = true then 0 else (x.v + (i + 1) * unitF x - 1) / 2097152 + 1 - m1)
  | 0, _ => by
    obtain ⟨h1, h2, h3, h4, h5, h6⟩ := aloneF_zero hx
    rw [buildU_succ]
    obtain ⟨e1, e2, _, _, e5⟩ := leafS_rest (s := downS base (buildU base s (unitsN x 0)) (unitAt x 0)) (u := unitAt x 0)
    obtain ⟨d0, d1, d2⟩ := downS_cnt base (buildU base s (unitsN x 0)) (unitAt x 0)
    have hn0 : s.n0 = 0 ∨ (s.n0 - 1) * 1073741824 < t := by
      by_cases e : s.n0 = 0
      · exact Or.inl e
      · exact Or.inr (hu.u0 e)
    have hn1 : s.n1 = 0 ∨ (s.n1 - 1) * 2097152 < t := by
      by_cases e : s.n1 = 0
      · exact Or.inl e
      · exact Or.inr (hu.u1 e)
    have es : buildU base s (unitsN x 0) = s := rfl
    have hv : (unitAt x 0).v = x.v := by show x.v + 0 * _ = _; rw [Nat.zero_mul, Nat.add_zero]
    have hb' : (unitAt x 0).big = x.big := rfl
    unfold stepU
    rw [e1, e2, e5, d0, d1, d2, es, hv, hb', Nat.zero_add, Nat.one_mul]
    obtain ⟨f1, f2, f3⟩ := fs30 (l := unitF x) (by rcases unitF_cases x with ⟨_, e⟩ | ⟨_, e⟩ <;> omega) h2 hn0 ht hm0
    rcases unitF_cases x with ⟨hb, hl⟩ | ⟨hb, hl⟩
    · rw [hb, if_pos rfl, if_pos rfl, if_pos rfl, if_pos rfl, f1, f2]
      exact ⟨⟨rfl, f3⟩, rfl, (fun e => by cases e), rfl⟩
    · obtain ⟨g1, g2, g3⟩ := fs21 (v := x.v) (by rw [hl] at h2; exact h2) hn1 ht hm1
      simp only [hb, Bool.false_eq_true, if_false]
      rw [f1, f2, g1, g2, hl]
      rw [hl] at f3
      exact ⟨⟨rfl, f3⟩, rfl, fun _ => g3, rfl⟩
  | i + 1, hi => by
    obtain ⟨h1, h2, h3, h4, h5, h6⟩ := aloneF_zero hx
    obtain ⟨⟨p0, p0'⟩, p1, p1', p2⟩ := row_count (base := base) hx ht hu hm0 hm1 i (by omega)
    rw [buildU_succ]
    generalize buildU base s (unitsN x (i + 1)) = q at *
    obtain ⟨e1, e2, _, _, e5⟩ := leafS_rest (s := downS base q (unitAt x (i + 1))) (u := unitAt x (i + 1))
    obtain ⟨d0, d1, d2⟩ := downS_cnt base q (unitAt x (i + 1))
    have hv : (unitAt x (i + 1)).v = x.v + (i + 1) * unitF x := rfl
    have hb' : (unitAt x (i + 1)).big = x.big := rfl
    have hE : x.v + (i + 1 + 1) * unitF x = x.v + (i + 1) * unitF x + unitF x := by rw [Nat.add_mul (i + 1) 1, Nat.one_mul]; omega
    have hm : (x.v + (i + 1) * unitF x) % unitF x = 0 := by rw [Nat.add_mul_mod_self_right]; exact h2
    have hu1 : 1 ≤ (i + 1) * unitF x := Nat.mul_pos (by omega) (by rcases unitF_cases x with ⟨_, e⟩ | ⟨_, e⟩ <;> omega)
    unfold stepU
    rw [e1, e2, e5, d0, d1, d2, hv, hb', hE]
    clear e1 e2 e5 d0 d1 d2 hv hb' hE
    generalize hEE : x.v + (i + 1) * unitF x = E at *
    obtain ⟨f1, f2⟩ := up30 (E := E) (l := unitF x) (by rcases unitF_cases x with ⟨_, e⟩ | ⟨_, e⟩ <;> omega) hm (by omega) p0 p0'
    have f3 : m0 ≤ (E + unitF x - 1) / 1073741824 + 1 := by rw [← f1]; split <;> omega
    rcases unitF_cases x with ⟨hb, hl⟩ | ⟨hb, hl⟩
    · rw [hb, if_pos rfl] at p1 p2
      rw [hb, if_pos rfl, if_pos rfl, if_pos rfl, if_pos rfl, f1]
      refine ⟨⟨rfl, f3⟩, p1, (fun e => by cases e), ?_⟩
      rw [p2, ← f2, p0]
      omega
    · simp only [hb, Bool.false_eq_true, if_false] at p1 p2
      obtain ⟨g1, g2⟩ := up21 (E := E) (by rw [hl] at hm; exact hm) (by omega) p1 (p1' hb)
      have g3 : m1 ≤ (E + 4096 - 1) / 2097152 + 1 := by rw [← g1]; have := p1' hb; split <;> omega
      simp only [hb, Bool.false_eq_true, if_false]
      rw [f1, g1, hl]
      rw [hl] at f2 f3
      refine ⟨⟨rfl, f3⟩, rfl, fun _ => g3, ?_⟩
      rw [p2, ← f2, ← g2, ← p0, ← p1]
      omega
theorem rows_count {base : Nat} : ∀ {xs : List L6} {t : Nat} {s : Bst}, refuF t xs = 0 → Cl base s → Up t s → (buildU base s (units xs)).nx = tabsF s.nx s.n0 s.n1 xs
  | [], t, s, _, h, hu => rfl
  | x :: xs, t, s, hr, h, hu => by
    obtain ⟨h1, h2, h3⟩ := refuF_zero hr
    obtain ⟨c, u⟩ := row_good h1 h2 h hu (cntU x) (Nat.le_refl _)
    obtain ⟨hm, hc⟩ := cntU_mul h1
    obtain ⟨M0, hM0, hM0'⟩ := mx (x.v / 1073741824) s.n0
    obtain ⟨M1, hM1, hM1'⟩ := mx (x.v / 2097152) s.n1
    obtain ⟨⟨m0, _⟩, m1, _, m2⟩ := row_count (base := base) h1 h2 hu hM0' hM1' (cntU x - 1) (by omega)
    rw [show cntU x - 1 + 1 = cntU x by omega] at m0 m1 m2
    rw [hm] at u m0 m1 m2
    have e : buildU base s (units (x :: xs)) = buildU base (buildU base s (unitsN x (cntU x))) (units xs) := by
      rw [← buildU_app]; rfl
    rw [e, rows_count h3 c u, m0, m1, m2]
    have ht : tabsF s.nx s.n0 s.n1 (x :: xs) = if x.big = true then tabsF (s.nx + ((x.v + x.n.toNat * 4096 - 1) / 1073741824 + 1 - max (x.v / 1073741824) s.n0)) ((x.v + x.n.toNat * 4096 - 1) / 1073741824 + 1) s.n1 xs else tabsF (s.nx + ((x.v + x.n.toNat * 4096 - 1) / 1073741824 + 1 - max (x.v / 1073741824) s.n0) + ((x.v + x.n.toNat * 4096 - 1) / 2097152 + 1 - max (x.v / 2097152) s.n1)) ((x.v + x.n.toNat * 4096 - 1) / 1073741824 + 1) ((x.v + x.n.toNat * 4096 - 1) / 2097152 + 1) xs := rfl
    rw [ht, hM0, hM1]
    by_cases hb : x.big = true
    · rw [if_pos hb, if_pos hb, if_pos hb, Nat.add_zero]
    · rw [if_neg hb, if_neg hb, if_neg hb]
theorem stepU_nx (base : Nat) (s : Bst) (u : Un) : s.nx ≤ (stepU base s u).nx := by
  obtain ⟨_, _, _, _, e5⟩ := leafS_rest (s := downS base s u) (u := u)
  unfold stepU
  rw [e5]
  unfold downS step2 step1
  split <;> repeat (first | split | simp only | omega)
theorem buildU_nx (base : Nat) : ∀ (us : List Un) (s : Bst), s.nx ≤ (buildU base s us).nx
  | [], s => Nat.le_refl _
  | u :: us, s => Nat.le_trans (stepU_nx base s u) (buildU_nx base us (stepU base s u))
end Go.Proofs.Ytjfpdphedpnelaa
