import Derived.Test.YtgjamnhepbblhaaPk19
/- Pages: the builder's tables, row by row. Own work. -/
namespace Go.Proofs.Ytgjamnhepbblhaa
open Go.RowKit Wk
set_option linter.unusedVariables false
set_option maxRecDepth 20000
/-- all that there is lies below t -/
structure Up (t : Nat) (s : Bst) : Prop where
  u0 : s.n0 ≠ 0 → (s.n0 - 1) * 1073741824 < t
  u1 : s.n1 ≠ 0 → (s.n1 - 1) * 2097152 < t
  l1 : ∀ b, s.L1 b ≠ 0 → (b + 1) * 2097152 ≤ t
  l2 : ∀ c, s.L2 c ≠ 0 → (c + 1) * 4096 ≤ t
theorem up0 : Up 0 bst0 := ⟨fun h => absurd rfl h, fun h => absurd rfl h, fun _ h => absurd rfl h, fun _ h => absurd rfl h⟩
theorem Up.mono {t t' : Nat} {s : Bst} (h : Up t s) (ht : t ≤ t') : Up t' s := ⟨fun e => Nat.lt_of_lt_of_le (h.u0 e) ht, fun e => Nat.lt_of_lt_of_le (h.u1 e) ht, fun b e => Nat.le_trans (h.l1 b e) ht, fun b e => Nat.le_trans (h.l2 b e) ht⟩
theorem step1_n0 {base t : Nat} {s : Bst} (h : Up t s) {v : Nat} (hv : t ≤ v) : (step1 base s v).n0 = v / 1073741824 + 1 := by
  unfold step1
  by_cases hk : v / 1073741824 < s.n0
  · rw [if_pos hk]
    have := h.u0 (by omega)
    omega
  · rw [if_neg hk]
theorem step1_rest {base : Nat} {s : Bst} {v : Nat} : (step1 base s v).n1 = s.n1 ∧ (step1 base s v).a2 = s.a2 ∧ (step1 base s v).L1 = s.L1 ∧ (step1 base s v).L2 = s.L2 ∧ (step1 base s v).B = s.B ∧ (step1 base s v).nx = s.nx + (if v / 1073741824 < s.n0 then 0 else 1) := by
  unfold step1
  split <;> simp
theorem step2_rest {base : Nat} {s : Bst} {v : Nat} : (step2 base s v).n0 = s.n0 ∧ (step2 base s v).a1 = s.a1 ∧ (step2 base s v).L1 = s.L1 ∧ (step2 base s v).L2 = s.L2 ∧ (step2 base s v).A = s.A ∧ (step2 base s v).nx = s.nx + (if v / 2097152 < s.n1 then 0 else 1) := by
  unfold step2
  split <;> simp
theorem step2_n1 {base t : Nat} {s : Bst} (h : s.n1 ≠ 0 → (s.n1 - 1) * 2097152 < t) {v : Nat} (hv : t ≤ v) : (step2 base s v).n1 = v / 2097152 + 1 := by
  unfold step2
  by_cases hk : v / 2097152 < s.n1
  · rw [if_pos hk]
    have := h (by omega)
    omega
  · rw [if_neg hk]
theorem Up.L1z {t : Nat} {s : Bst} (h : Up t s) {v : Nat} (hv : t ≤ v) : s.L1 (v / 2097152) = 0 := by
  by_cases e : s.L1 (v / 2097152) = 0
  · exact e
  · have := h.l1 _ e
    omega
theorem Up.n1_le {t : Nat} {s : Bst} (h : Up t s) {v : Nat} (hv : t ≤ v) : s.n1 ≤ v / 2097152 + 1 := by
  by_cases e : s.n1 = 0
  · omega
  · have := h.u1 e
    omega
theorem leafS_rest {s : Bst} {u : Un} : (leafS s u).n0 = s.n0 ∧ (leafS s u).n1 = s.n1 ∧ (leafS s u).a1 = s.a1 ∧ (leafS s u).a2 = s.a2 ∧ (leafS s u).nx = s.nx := by
  unfold leafS
  split <;> simp
/-- one leaf more -/
theorem stepU_good {base t : Nat} {s : Bst} (h : Cl base s) (hu : Up t s) {u : Un} (ht : t ≤ u.v) (ha : u.v % u.len = 0) (he : u.v + u.len ≤ 549755813888) : Cl base (stepU base s u) ∧ Up (u.v + u.len) (stepU base s u) := by
  have hv : u.v < 549755813888 := by have : 0 < u.len := by unfold Un.len; split <;> omega
                                     omega
  have c1 := h.step1 hv
  have n0 := step1_n0 (base := base) hu ht
  obtain ⟨r1, r2, r3, r4, r5, _⟩ := step1_rest (base := base) (s := s) (v := u.v)
  unfold stepU downS
  by_cases hb : u.big = true
  · rw [if_pos hb]
    have hl : u.len = 2097152 := by unfold Un.len; rw [if_pos hb]
    rw [hl] at ha he ⊢
    have hn1 : s.n1 ≤ u.v / 2097152 := by
      by_cases e : s.n1 = 0
      · omega
      · have := hu.u1 e
        omega
    refine ⟨c1.leaf1 hb n0.symm (by rw [r1]; exact hn1), ?_⟩
    obtain ⟨e1, e2, _⟩ := leafS_rest (s := step1 base s u.v) (u := u)
    refine ⟨fun _ => ?_, fun hn => ?_, fun b hz => ?_, fun c hz => ?_⟩
    · rw [e1, n0]; omega
    · rw [e2, r1] at hn ⊢
      have := hu.u1 hn
      omega
    · unfold leafS at hz
      rw [if_pos hb] at hz
      simp only [putM] at hz
      split at hz
      · omega
      · rw [r3] at hz
        have := hu.l1 b hz
        omega
    · unfold leafS at hz
      rw [if_pos hb] at hz
      simp only at hz
      rw [r4] at hz
      have := hu.l2 c hz
      omega
  · rw [if_neg hb]
    have hl : u.len = 4096 := by unfold Un.len; rw [if_neg hb]
    rw [hl] at ha he ⊢
    have c2 := c1.step2 n0.symm (by rw [r3]; exact hu.L1z ht)
    have n1 := step2_n1 (base := base) (s := step1 base s u.v) (t := t) (by rw [r1]; exact hu.u1) ht
    obtain ⟨q1, q2, q3, q4, q5, _⟩ := step2_rest (base := base) (s := step1 base s u.v) (v := u.v)
    refine ⟨c2.leaf2 hb n1.symm, ?_⟩
    obtain ⟨e1, e2, _⟩ := leafS_rest (s := step2 base (step1 base s u.v) u.v) (u := u)
    refine ⟨fun _ => ?_, fun hn => ?_, fun b hz => ?_, fun c hz => ?_⟩
    · rw [e1, q1, n0]; omega
    · rw [e2, n1]; omega
    · unfold leafS at hz
      rw [if_neg hb] at hz
      simp only at hz
      rw [q3, r3] at hz
      have := hu.l1 b hz
      omega
    · unfold leafS at hz
      rw [if_neg hb] at hz
      simp only [putM] at hz
      split at hz
      · omega
      · rw [q4, r4] at hz
        have := hu.l2 c hz
        omega
theorem unitsN_succ (x : L6) (i : Nat) : unitsN x (i + 1) = unitsN x i ++ [unitAt x i] := by simp [unitsN, List.range_succ]
theorem buildU_app (base : Nat) (s : Bst) (us vs : List Un) : buildU base s (us ++ vs) = buildU base (buildU base s us) vs := by simp [buildU, List.foldl_append]
theorem buildU_succ (base : Nat) (s : Bst) (x : L6) (i : Nat) : buildU base s (unitsN x (i + 1)) = stepU base (buildU base s (unitsN x i)) (unitAt x i) := by rw [unitsN_succ, buildU_app]; rfl
theorem unitF_cases (x : L6) : (x.big = true ∧ unitF x = 2097152) ∨ (x.big = false ∧ unitF x = 4096) := by
  unfold unitF
  cases x.big <;> simp
theorem unitAt_len (x : L6) (i : Nat) : (unitAt x i).len = unitF x := rfl
theorem cntU_mul {x : L6} (h : aloneF x = 0) : cntU x * unitF x = x.n.toNat * 4096 ∧ 1 ≤ cntU x := by
  obtain ⟨h1, _, _, _, _, h6⟩ := aloneF_zero h
  unfold cntU
  rcases unitF_cases x with ⟨hb, hu⟩ | ⟨hb, hu⟩
  · have := h6 hb
    rw [hu]
    omega
  · rw [hu]
    omega
/-- the first leaves of a row -/
theorem row_good {base t : Nat} {s : Bst} {x : L6} (hx : aloneF x = 0) (ht : t ≤ x.v) (h : Cl base s) (hu : Up t s) : ∀ i, i ≤ cntU x → Cl base (buildU base s (unitsN x i)) ∧ Up (x.v + i * unitF x) (buildU base s (unitsN x i))
  | 0, _ => by
    rw [Nat.zero_mul]
    exact ⟨h, hu.mono ht⟩
  | i + 1, hi => by
    obtain ⟨c, u⟩ := row_good hx ht h hu i (by omega)
    obtain ⟨h1, h2, h3, h4, h5, h6⟩ := aloneF_zero hx
    have hm := (cntU_mul hx).1
    have hle : (i + 1) * unitF x ≤ cntU x * unitF x := Nat.mul_le_mul_right _ hi
    rw [buildU_succ]
    have hs := stepU_good c u (u := unitAt x i) (Nat.le_refl _) ?_ ?_
    · have e : (unitAt x i).v + (unitAt x i).len = x.v + (i + 1) * unitF x := by
        rw [unitAt_len]
        show x.v + i * unitF x + unitF x = _
        rw [Nat.add_mul]
        omega
      rw [e] at hs
      exact hs
    · rw [unitAt_len]
      show (x.v + i * unitF x) % unitF x = 0
      rw [Nat.add_mul_mod_self_right]
      exact h2
    · rw [unitAt_len]
      show x.v + i * unitF x + unitF x ≤ _
      rw [Nat.add_mul] at hle
      omega
def endF : Nat → List L6 → Nat
  | t, [] => t
  | _, x :: xs => endF (x.v + x.n.toNat * 4096) xs
theorem rows_good {base : Nat} : ∀ {xs : List L6} {t : Nat} {s : Bst}, refuF t xs = 0 → Cl base s → Up t s → Cl base (buildU base s (units xs)) ∧ Up (endF t xs) (buildU base s (units xs))
  | [], t, s, _, h, hu => ⟨h, hu⟩
  | x :: xs, t, s, hr, h, hu => by
    obtain ⟨h1, h2, h3⟩ := refuF_zero hr
    obtain ⟨c, u⟩ := row_good h1 h2 h hu (cntU x) (Nat.le_refl _)
    rw [(cntU_mul h1).1] at u
    have e : buildU base s (units (x :: xs)) = buildU base (buildU base s (unitsN x (cntU x))) (units xs) := by
      rw [← buildU_app]; rfl
    rw [e]
    exact rows_good h3 c u
theorem mx (a b : Nat) : ∃ m, max a b = m ∧ ((a ≤ b ∧ m = b) ∨ (b ≤ a ∧ m = a)) := by
  rcases Nat.le_total a b with h | h
  · exact ⟨b, Nat.max_eq_right h, Or.inl ⟨h, rfl⟩⟩
  · exact ⟨a, Nat.max_eq_left h, Or.inr ⟨h, rfl⟩⟩
theorem downS_cnt (base : Nat) (q : Bst) (u : Un) : (downS base q u).n0 = (if u.v / 1073741824 < q.n0 then q.n0 else u.v / 1073741824 + 1) ∧ (downS base q u).n1 = (if u.big = true then q.n1 else if u.v / 2097152 < q.n1 then q.n1 else u.v / 2097152 + 1) ∧ (downS base q u).nx = q.nx + (if u.v / 1073741824 < q.n0 then 0 else 1) + (if u.big = true then 0 else if u.v / 2097152 < q.n1 then 0 else 1) := by
  obtain ⟨r1, _, _, _, _, r6⟩ := step1_rest (base := base) (s := q) (v := u.v)
  obtain ⟨s1, _, _, _, _, s6⟩ := step2_rest (base := base) (s := step1 base q u.v) (v := u.v)
  have e0 : (step1 base q u.v).n0 = (if u.v / 1073741824 < q.n0 then q.n0 else u.v / 1073741824 + 1) := by unfold step1; split <;> rfl
  have e1 : (step2 base (step1 base q u.v) u.v).n1 = (if u.v / 2097152 < q.n1 then q.n1 else u.v / 2097152 + 1) := by
    rw [← r1]
    generalize step1 base q u.v = z
    unfold step2
    split <;> rfl
  unfold downS
  by_cases hb : u.big = true
  · rw [if_pos hb, if_pos hb, if_pos hb]
    exact ⟨e0, r1, r6⟩
  · rw [if_neg hb, if_neg hb, if_neg hb]
    refine ⟨s1.trans e0, e1, ?_⟩
    rw [s6, r6, r1]
theorem up30 {E l n m : Nat} (hl : l = 4096 ∨ l = 2097152) (hE : E % l = 0) (h1 : 1 ≤ E) (hn : n = (E - 1) / 1073741824 + 1) (hm : m ≤ n) : (if E / 1073741824 < n then n else E / 1073741824 + 1) = (E + l - 1) / 1073741824 + 1 ∧ n - m + (if E / 1073741824 < n then 0 else 1) = (E + l - 1) / 1073741824 + 1 - m := by
  rcases hl with rfl | rfl <;> split <;> omega
theorem up21 {E n m : Nat} (hE : E % 4096 = 0) (h1 : 1 ≤ E) (hn : n = (E - 1) / 2097152 + 1) (hm : m ≤ n) : (if E / 2097152 < n then n else E / 2097152 + 1) = (E + 4096 - 1) / 2097152 + 1 ∧ n - m + (if E / 2097152 < n then 0 else 1) = (E + 4096 - 1) / 2097152 + 1 - m := by
  split <;> omega
theorem fs30 {v l n t m : Nat} (hl : l = 4096 ∨ l = 2097152) (hv : v % l = 0) (hn : n = 0 ∨ (n - 1) * 1073741824 < t) (ht : t ≤ v) (hm : (v / 1073741824 ≤ n ∧ m = n) ∨ (n ≤ v / 1073741824 ∧ m = v / 1073741824)) : (if v / 1073741824 < n then n else v / 1073741824 + 1) = (v + l - 1) / 1073741824 + 1 ∧ (if v / 1073741824 < n then 0 else 1) = (v + l - 1) / 1073741824 + 1 - m ∧ m ≤ (v + l - 1) / 1073741824 + 1 := by
  rcases hl with rfl | rfl <;> split <;> omega
theorem fs21 {v n t m : Nat} (hv : v % 4096 = 0) (hn : n = 0 ∨ (n - 1) * 2097152 < t) (ht : t ≤ v) (hm : (v / 2097152 ≤ n ∧ m = n) ∨ (n ≤ v / 2097152 ∧ m = v / 2097152)) : (if v / 2097152 < n then n else v / 2097152 + 1) = (v + 4096 - 1) / 2097152 + 1 ∧ (if v / 2097152 < n then 0 else 1) = (v + 4096 - 1) / 2097152 + 1 - m ∧ m ≤ (v + 4096 - 1) / 2097152 + 1 := by
  split <;> omega
theorem le30 {v a b m : Nat} (h : m ≤ (v + a - 1) / 1073741824 + 1) (hab : a ≤ b) : m ≤ (v + b - 1) / 1073741824 + 1 := by omega
/-- how many tables a row begins -/
theorem row_count {base t : Nat} {s : Bst} {x : L6} (hx : aloneF x = 0) (ht : t ≤ x.v) (hu : Up t s) {m0 m1 : Nat} (hm0 : (x.v / 1073741824 ≤ s.n0 ∧ m0 = s.n0) ∨ (s.n0 ≤ x.v / 1073741824 ∧ m0 = x.v / 1073741824)) (hm1 : (x.v / 2097152 ≤ s.n1 ∧ m1 = s.n1) ∨ (s.n1 ≤ x.v / 2097152 ∧ m1 = x.v / 2097152)) : ∀ i, i < cntU x →
    ((buildU base s (unitsN x (i + 1))).n0 = (x.v + (i + 1) * unitF x - 1) / 1073741824 + 1 ∧ m0 ≤ (buildU base s (unitsN x (i + 1))).n0) ∧
    (buildU base s (unitsN x (i + 1))).n1 = (if x.big = true then s.n1 else (x.v + (i + 1) * unitF x - 1) / 2097152 + 1) ∧ (x.big = false → m1 ≤ (buildU base s (unitsN x (i + 1))).n1) ∧
    (buildU base s (unitsN x (i + 1))).nx = s.nx + ((x.v + (i + 1) * unitF x - 1) / 1073741824 + 1 - m0) + (if x.big = true then 0 else (x.v + (i + 1) * unitF x - 1) / 2097152 + 1 - m1)
  | 0, _ => by
    obtain ⟨h1, h2, h3, h4, h5, h6⟩ := aloneF_zero hx
    rw [buildU_succ]
    obtain ⟨e1, e2, _, _, e5⟩ := leafS_rest (s := downS base (buildU base s (unitsN x 0)) (unitAt x 0)) (u := unitAt x 0)
    obtain ⟨d0, d1, d2⟩ := downS_cnt base (buildU base s (unitsN x 0)) (unitAt x 0)
    have hn0 : s.n0 = 0 ∨ (s.n0 - 1) * 1073741824 < t := by
      by_cases e : s.n0 = 0
      · exact Or.inl e
      · exact Or.inr (hu.u0 e)
    have hn1 : s.n1 = 0 ∨ (s.n1 - 1) * 2097152 < t := by
      by_cases e : s.n1 = 0
      · exact Or.inl e
      · exact Or.inr (hu.u1 e)
    have es : buildU base s (unitsN x 0) = s := rfl
    have hv : (unitAt x 0).v = x.v := by show x.v + 0 * _ = _; rw [Nat.zero_mul, Nat.add_zero]
    have hb' : (unitAt x 0).big = x.big := rfl
    unfold stepU
    rw [e1, e2, e5, d0, d1, d2, es, hv, hb', Nat.zero_add, Nat.one_mul]
    obtain ⟨f1, f2, f3⟩ := fs30 (l := unitF x) (by rcases unitF_cases x with ⟨_, e⟩ | ⟨_, e⟩ <;> omega) h2 hn0 ht hm0
    rcases unitF_cases x with ⟨hb, hl⟩ | ⟨hb, hl⟩
    · rw [hb, if_pos rfl, if_pos rfl, if_pos rfl, if_pos rfl, f1, f2]
      exact ⟨⟨rfl, f3⟩, rfl, (fun e => by cases e), rfl⟩
    · obtain ⟨g1, g2, g3⟩ := fs21 (v := x.v) (by rw [hl] at h2; exact h2) hn1 ht hm1
      simp only [hb, Bool.false_eq_true, if_false]
      rw [f1, f2, g1, g2, hl]
      rw [hl] at f3
      exact ⟨⟨rfl, f3⟩, rfl, fun _ => g3, rfl⟩
  | i + 1, hi => by
    obtain ⟨h1, h2, h3, h4, h5, h6⟩ := aloneF_zero hx
    obtain ⟨⟨p0, p0'⟩, p1, p1', p2⟩ := row_count (base := base) hx ht hu hm0 hm1 i (by omega)
    rw [buildU_succ]
    generalize buildU base s (unitsN x (i + 1)) = q at *
    obtain ⟨e1, e2, _, _, e5⟩ := leafS_rest (s := downS base q (unitAt x (i + 1))) (u := unitAt x (i + 1))
    obtain ⟨d0, d1, d2⟩ := downS_cnt base q (unitAt x (i + 1))
    have hv : (unitAt x (i + 1)).v = x.v + (i + 1) * unitF x := rfl
    have hb' : (unitAt x (i + 1)).big = x.big := rfl
    have hE : x.v + (i + 1 + 1) * unitF x = x.v + (i + 1) * unitF x + unitF x := by rw [Nat.add_mul (i + 1) 1, Nat.one_mul]; omega
    have hm : (x.v + (i + 1) * unitF x) % unitF x = 0 := by rw [Nat.add_mul_mod_self_right]; exact h2
    have hu1 : 1 ≤ (i + 1) * unitF x := Nat.mul_pos (by omega) (by rcases unitF_cases x with ⟨_, e⟩ | ⟨_, e⟩ <;> omega)
    unfold stepU
    rw [e1, e2, e5, d0, d1, d2, hv, hb', hE]
    clear e1 e2 e5 d0 d1 d2 hv hb' hE
    generalize hEE : x.v + (i + 1) * unitF x = E at *
    obtain ⟨f1, f2⟩ := up30 (E := E) (l := unitF x) (by rcases unitF_cases x with ⟨_, e⟩ | ⟨_, e⟩ <;> omega) hm (by omega) p0 p0'
    have f3 : m0 ≤ (E + unitF x - 1) / 1073741824 + 1 := by rw [← f1]; split <;> omega
    rcases unitF_cases x with ⟨hb, hl⟩ | ⟨hb, hl⟩
    · rw [hb, if_pos rfl] at p1 p2
      rw [hb, if_pos rfl, if_pos rfl, if_pos rfl, if_pos rfl, f1]
      refine ⟨⟨rfl, f3⟩, p1, (fun e => by cases e), ?_⟩
      rw [p2, ← f2, p0]
      omega
    · simp only [hb, Bool.false_eq_true, if_false] at p1 p2
      obtain ⟨g1, g2⟩ := up21 (E := E) (by rw [hl] at hm; exact hm) (by omega) p1 (p1' hb)
      have g3 : m1 ≤ (E + 4096 - 1) / 2097152 + 1 := by rw [← g1]; have := p1' hb; split <;> omega
      simp only [hb, Bool.false_eq_true, if_false]
      rw [f1, g1, hl]
      rw [hl] at f2 f3
      refine ⟨⟨rfl, f3⟩, rfl, fun _ => g3, ?_⟩
      rw [p2, ← f2, ← g2, ← p0, ← p1]
      omega
theorem rows_count {base : Nat} : ∀ {xs : List L6} {t : Nat} {s : Bst}, refuF t xs = 0 → Cl base s → Up t s → (buildU base s (units xs)).nx = tabsF s.nx s.n0 s.n1 xs
  | [], t, s, _, h, hu => rfl
  | x :: xs, t, s, hr, h, hu => by
    obtain ⟨h1, h2, h3⟩ := refuF_zero hr
    obtain ⟨c, u⟩ := row_good h1 h2 h hu (cntU x) (Nat.le_refl _)
    obtain ⟨hm, hc⟩ := cntU_mul h1
    obtain ⟨M0, hM0, hM0'⟩ := mx (x.v / 1073741824) s.n0
    obtain ⟨M1, hM1, hM1'⟩ := mx (x.v / 2097152) s.n1
    obtain ⟨⟨m0, _⟩, m1, _, m2⟩ := row_count (base := base) h1 h2 hu hM0' hM1' (cntU x - 1) (by omega)
    rw [show cntU x - 1 + 1 = cntU x by omega] at m0 m1 m2
    rw [hm] at u m0 m1 m2
    have e : buildU base s (units (x :: xs)) = buildU base (buildU base s (unitsN x (cntU x))) (units xs) := by
      rw [← buildU_app]; rfl
    rw [e, rows_count h3 c u, m0, m1, m2]
    have ht : tabsF s.nx s.n0 s.n1 (x :: xs) = if x.big = true then tabsF (s.nx + ((x.v + x.n.toNat * 4096 - 1) / 1073741824 + 1 - max (x.v / 1073741824) s.n0)) ((x.v + x.n.toNat * 4096 - 1) / 1073741824 + 1) s.n1 xs else tabsF (s.nx + ((x.v + x.n.toNat * 4096 - 1) / 1073741824 + 1 - max (x.v / 1073741824) s.n0) + ((x.v + x.n.toNat * 4096 - 1) / 2097152 + 1 - max (x.v / 2097152) s.n1)) ((x.v + x.n.toNat * 4096 - 1) / 1073741824 + 1) ((x.v + x.n.toNat * 4096 - 1) / 2097152 + 1) xs := rfl
    rw [ht, hM0, hM1]
    by_cases hb : x.big = true
    · rw [if_pos hb, if_pos hb, if_pos hb, Nat.add_zero]
    · rw [if_neg hb, if_neg hb, if_neg hb]
theorem stepU_nx (base : Nat) (s : Bst) (u : Un) : s.nx ≤ (stepU base s u).nx := by
  obtain ⟨_, _, _, _, e5⟩ := leafS_rest (s := downS base s u) (u := u)
  unfold stepU
  rw [e5]
  unfold downS step2 step1
  split <;> repeat (first | split | simp only | omega)
theorem buildU_nx (base : Nat) : ∀ (us : List Un) (s : Bst), s.nx ≤ (buildU base s us).nx
  | [], s => Nat.le_refl _
  | u :: us, s => Nat.le_trans (stepU_nx base s u) (buildU_nx base us (stepU base s u))
end Go.Proofs.Ytgjamnhepbblhaa
/- Pages: rows joined, and each leaf by itself. Own work. -/
namespace Go.Proofs.Ytgjamnhepbblhaa
open Go.RowKit Wk
set_option linter.unusedVariables false
set_option maxRecDepth 20000
theorem aloneF_of {x : L6} (h1 : 1 ≤ x.n) (h2 : x.v % unitF x = 0) (h3 : x.p % unitF x = 0) (h4 : x.v + x.n.toNat * 4096 ≤ 549755813888) (h5 : x.p + x.n.toNat * 4096 ≤ 4294967296) (h6 : x.big = true → x.n % 512 = 0) : aloneF x = 0 := by
  unfold aloneF winB
  rw [if_neg (by rintro (e | ⟨e, f⟩); · omega
                 · exact f (h6 e)), if_neg (by omega), if_neg (by simp; omega), if_neg (by simp; omega)]
theorem goesF_iff {y x : L6} : goesF y x = true ↔ x.v = y.v + y.n.toNat * 4096 ∧ x.p = y.p + y.n.toNat * 4096 ∧ x.big = y.big ∧ x.wr = y.wr ∧ x.ex = y.ex := by
  unfold goesF
  exact decide_eq_true_iff
theorem alone_join {y x : L6} (hy : aloneF y = 0) (hx : aloneF x = 0) (hg : goesF y x = true) : aloneF (joinL y x) = 0 ∧ (joinL y x).n.toNat = y.n.toNat + x.n.toNat := by
  obtain ⟨y1, y2, y3, y4, y5, y6⟩ := aloneF_zero hy
  obtain ⟨x1, x2, x3, x4, x5, x6⟩ := aloneF_zero hx
  obtain ⟨g1, g2, g3, _, _⟩ := goesF_iff.1 hg
  have hn : (joinL y x).n = y.n + x.n := rfl
  have ht : (joinL y x).n.toNat = y.n.toNat + x.n.toNat := by rw [hn]; omega
  refine ⟨aloneF_of (by rw [hn]; omega) y2 y3 ?_ ?_ ?_, ht⟩
  · rw [ht]
    show y.v + _ ≤ _
    omega
  · rw [ht]
    show y.p + _ ≤ _
    omega
  · intro hb
    have h1 := y6 hb
    have h2 := x6 (g3.trans hb)
    rw [hn]
    omega
theorem unitsN_add (x : L6) (a : Nat) : ∀ b, unitsN x (a + b) = unitsN x a ++ (List.range b).map (fun i => unitAt x (a + i))
  | 0 => by simp
  | b + 1 => by rw [← Nat.add_assoc, unitsN_succ, unitsN_add x a b, List.range_succ, List.map_append, List.append_assoc]; rfl
theorem units_join {y x : L6} (hy : aloneF y = 0) (hx : aloneF x = 0) (hg : goesF y x = true) : unitsL (joinL y x) = unitsL y ++ unitsL x := by
  obtain ⟨hj, hn⟩ := alone_join hy hx hg
  obtain ⟨g1, g2, g3, g4, g5⟩ := goesF_iff.1 hg
  have hu : unitF (joinL y x) = unitF y := rfl
  have hux : unitF x = unitF y := by unfold unitF; rw [g3]
  have c1 := (cntU_mul hj).1
  have c2 := (cntU_mul hy).1
  have c3 := (cntU_mul hx).1
  have hp : 0 < unitF y := by rcases unitF_cases y with ⟨_, e⟩ | ⟨_, e⟩ <;> omega
  have hc : cntU (joinL y x) = cntU y + cntU x := by
    apply Nat.eq_of_mul_eq_mul_right hp
    rw [Nat.add_mul, c2, ← hu, c1, hu, ← hux, c3, hn, Nat.add_mul]
  unfold unitsL
  rw [hc, unitsN_add]
  congr 1
  · unfold unitsN
    apply List.map_congr_left
    intro i hi
    have e2 : x.v = y.v + cntU y * unitF y := by rw [c2]; exact g1
    have e3 : x.p = y.p + cntU y * unitF y := by rw [c2]; exact g2
    unfold unitAt
    rw [hu, hux, e2, e3, g3, g4, g5, Nat.add_mul, Nat.add_assoc, Nat.add_assoc]
    rfl
theorem refuF_app : ∀ {xs ys : List L6} {t : Nat}, refuF t (xs ++ ys) = 0 ↔ refuF t xs = 0 ∧ refuF (endF t xs) ys = 0
  | [], ys, t => by simp [refuF, endF]
  | x :: xs, ys, t => by
    constructor
    · intro h
      obtain ⟨h1, h2, h3⟩ := refuF_zero (show refuF t (x :: (xs ++ ys)) = 0 from h)
      obtain ⟨a, b⟩ := refuF_app.1 h3
      refine ⟨?_, b⟩
      show refuF t (x :: xs) = 0
      unfold refuF
      rw [if_neg (by omega), if_neg (by omega)]
      exact a
    · rintro ⟨h, hb⟩
      obtain ⟨h1, h2, h3⟩ := refuF_zero h
      show refuF t (x :: (xs ++ ys)) = 0
      unfold refuF
      rw [if_neg (by omega), if_neg (by omega)]
      exact refuF_app.2 ⟨h3, hb⟩
theorem refuF_one {t : Nat} {x : L6} : refuF t [x] = 0 ↔ aloneF x = 0 ∧ t ≤ x.v := by
  constructor
  · intro h
    obtain ⟨h1, h2, _⟩ := refuF_zero h
    exact ⟨h1, h2⟩
  · rintro ⟨h1, h2⟩
    unfold refuF
    rw [if_neg (by omega), if_neg (by omega)]
    rfl
theorem endF_app : ∀ (xs ys : List L6) (t : Nat), endF t (xs ++ ys) = endF (endF t xs) ys
  | [], _, _ => rfl
  | x :: xs, ys, t => endF_app xs ys _
theorem units_app (xs ys : List L6) : units (xs ++ ys) = units xs ++ units ys := by simp [units]
theorem units_one (x : L6) : units [x] = unitsL x := by simp [units]
/-- what Runs makes of rows that may be -/
theorem runs_good : ∀ {xs bs : List L6} {y : L6}, refuF 0 (bs ++ [y]) = 0 → refuF (endF 0 (bs ++ [y])) xs = 0 → refuF 0 (runsF (bs ++ [y]) xs) = 0 ∧ units (runsF (bs ++ [y]) xs) = units (bs ++ [y]) ++ units xs ∧ (runsF (bs ++ [y]) xs).length ≤ (bs ++ [y]).length + xs.length
  | [], bs, y, h, _ => by
    refine ⟨h, ?_, Nat.le_refl _⟩
    show units (bs ++ [y]) = units (bs ++ [y]) ++ []
    simp
  | x :: xs, bs, y, h, hx => by
    obtain ⟨h1, h2, h3⟩ := refuF_zero hx
    obtain ⟨b1, b2⟩ := refuF_app.1 h
    obtain ⟨y1, y2⟩ := refuF_one.1 b2
    have eE : endF 0 (bs ++ [y]) = y.v + y.n.toNat * 4096 := by rw [endF_app]; rfl
    rw [runsF_some]
    by_cases hg : goesF y x = true
    · rw [if_pos hg]
      obtain ⟨j1, j2⟩ := alone_join y1 h1 hg
      obtain ⟨g1, _⟩ := goesF_iff.1 hg
      have r1 : refuF 0 (bs ++ [joinL y x]) = 0 := refuF_app.2 ⟨b1, refuF_one.2 ⟨j1, y2⟩⟩
      have eJ : endF 0 (bs ++ [joinL y x]) = x.v + x.n.toNat * 4096 := by
        rw [endF_app]
        show y.v + (joinL y x).n.toNat * 4096 = _
        rw [j2, g1, Nat.add_mul]
        omega
      obtain ⟨a, b, c⟩ := runs_good (xs := xs) (bs := bs) (y := joinL y x) r1 (by rw [eJ]; exact h3)
      refine ⟨a, ?_, ?_⟩
      · rw [b, units_app, units_app, units_one, units_one, units_join y1 h1 hg]
        simp [units]
      · simp only [List.length_append, List.length_cons, List.length_nil] at c ⊢
        omega
    · rw [if_neg hg]
      have r1 : refuF 0 (bs ++ [y] ++ [x]) = 0 := refuF_app.2 ⟨h, refuF_one.2 ⟨h1, h2⟩⟩
      obtain ⟨a, b, c⟩ := runs_good (xs := xs) (bs := bs ++ [y]) (y := x) r1 (by rw [endF_app]; exact h3)
      refine ⟨a, ?_, ?_⟩
      · rw [b, units_app]
        simp [units]
      · simp only [List.length_append, List.length_cons, List.length_nil] at c ⊢
        omega
theorem runs_ok {xs : List L6} (h : refuF 0 xs = 0) : refuF 0 (runsF [] xs) = 0 ∧ units (runsF [] xs) = units xs ∧ (runsF [] xs).length ≤ xs.length := by
  cases xs with
  | nil => exact ⟨rfl, rfl, Nat.le_refl _⟩
  | cons x xs =>
    obtain ⟨h1, h2, h3⟩ := refuF_zero h
    rw [runsF_none]
    obtain ⟨a, b, c⟩ := runs_good (xs := xs) (bs := []) (y := x) (refuF_one.2 ⟨h1, h2⟩) h3
    refine ⟨a, b.trans ?_, ?_⟩
    · simp [units]
    · simp only [List.nil_append, List.length_cons, List.length_nil] at c ⊢
      omega
/-- no row goes on where the one ahead of it ends -/
def Sep : List L6 → Prop
  | [] => True
  | [_] => True
  | y :: x :: xs => goesF y x = false ∧ Sep (x :: xs)
theorem Sep.snoc : ∀ {bs : List L6} {y x : L6}, Sep (bs ++ [y]) → goesF y x = false → Sep (bs ++ [y] ++ [x])
  | [], y, x, _, h => ⟨h, trivial⟩
  | [b], y, x, h, hg => ⟨h.1, hg, trivial⟩
  | b :: c :: bs, y, x, h, hg => ⟨h.1, Sep.snoc (bs := c :: bs) h.2 hg⟩
theorem Sep.last : ∀ {bs : List L6} {y z : L6}, Sep (bs ++ [y]) → z.v = y.v → z.p = y.p → z.big = y.big → z.wr = y.wr → z.ex = y.ex → Sep (bs ++ [z])
  | [], _, _, _, _, _, _, _, _ => trivial
  | [b], y, z, h, e1, e2, e3, e4, e5 => by
    refine ⟨?_, trivial⟩
    have h1 : goesF b y = false := h.1
    unfold goesF at h1 ⊢
    rw [e1, e2, e3, e4, e5]
    exact h1
  | b :: c :: bs, y, z, h, e1, e2, e3, e4, e5 => ⟨h.1, Sep.last (bs := c :: bs) h.2 e1 e2 e3 e4 e5⟩
theorem runs_sep : ∀ {xs bs : List L6} {y : L6}, Sep (bs ++ [y]) → Sep (runsF (bs ++ [y]) xs)
  | [], bs, y, h => h
  | x :: xs, bs, y, h => by
    rw [runsF_some]
    by_cases hg : goesF y x = true
    · rw [if_pos hg]
      exact runs_sep (h.last rfl rfl rfl rfl rfl)
    · rw [if_neg hg]
      exact runs_sep (h.snoc (by simpa using hg))
theorem sep_runs : ∀ {xs bs : List L6} {y : L6}, Sep (y :: xs) → runsF (bs ++ [y]) xs = bs ++ y :: xs
  | [], bs, y, _ => rfl
  | x :: xs, bs, y, h => by
    rw [runsF_some, if_neg (by rw [h.1]; simp), sep_runs (bs := bs ++ [y]) h.2]
    simp
theorem runs_twice (xs : List L6) : runsF [] (runsF [] xs) = runsF [] xs := by
  have hs : Sep (runsF [] xs) := by
    cases xs with
    | nil => trivial
    | cons x xs => rw [runsF_none]; exact runs_sep (bs := []) (y := x) trivial
  cases he : runsF [] xs with
  | nil => rfl
  | cons y ys =>
    rw [he] at hs
    rw [runsF_none]
    exact sep_runs (bs := []) hs
/-- a leaf as a row of its own -/
def rowU (u : Un) : L6 := ⟨u.v, u.p, (u.len / 4096 : Nat), u.big, u.wr, u.ex⟩
def eachF (xs : List L6) : List L6 := (units xs).map rowU
theorem rowU_ok {u : Un} (h1 : u.v % u.len = 0) (h2 : u.p % u.len = 0) (h3 : u.v + u.len ≤ 549755813888) (h4 : u.p + u.len ≤ 4294967296) : aloneF (rowU u) = 0 ∧ (rowU u).n.toNat * 4096 = u.len := by
  have e : (rowU u).n = ((u.len / 4096 : Nat) : Int) := rfl
  have hu : unitF (rowU u) = u.len := rfl
  have hl : u.len = 2097152 ∨ (u.big = false ∧ u.len = 4096) := by unfold Un.len; cases u.big <;> simp
  have hn : (rowU u).n.toNat * 4096 = u.len := by rw [e]; rcases hl with hl | ⟨_, hl⟩ <;> rw [hl] <;> rfl
  refine ⟨aloneF_of ?_ (by rw [hu]; exact h1) (by rw [hu]; exact h2) (by rw [hn]; exact h3) (by rw [hn]; exact h4) ?_, hn⟩
  · rw [e]; rcases hl with hl | ⟨_, hl⟩ <;> rw [hl] <;> decide
  · intro hb
    have hb' : u.big = true := hb
    rw [e]
    rcases hl with hl | ⟨hf, _⟩
    · rw [hl]; decide
    · rw [hb'] at hf; cases hf
theorem unitAt_ok {x : L6} (h : aloneF x = 0) {i : Nat} (hi : i < cntU x) : (unitAt x i).v % (unitAt x i).len = 0 ∧ (unitAt x i).p % (unitAt x i).len = 0 ∧ (unitAt x i).v + (unitAt x i).len ≤ x.v + x.n.toNat * 4096 ∧ (unitAt x i).p + (unitAt x i).len ≤ x.p + x.n.toNat * 4096 := by
  obtain ⟨h1, h2, h3, h4, h5, h6⟩ := aloneF_zero h
  have hm := (cntU_mul h).1
  have hle : (i + 1) * unitF x ≤ cntU x * unitF x := Nat.mul_le_mul_right _ hi
  rw [Nat.add_mul, Nat.one_mul] at hle
  refine ⟨?_, ?_, ?_, ?_⟩
  · show (x.v + i * unitF x) % unitF x = 0
    rw [Nat.add_mul_mod_self_right]; exact h2
  · show (x.p + i * unitF x) % unitF x = 0
    rw [Nat.add_mul_mod_self_right]; exact h3
  · show x.v + i * unitF x + unitF x ≤ _
    omega
  · show x.p + i * unitF x + unitF x ≤ _
    omega
theorem units_rowU {u : Un} (h1 : u.v % u.len = 0) (h2 : u.p % u.len = 0) (h3 : u.v + u.len ≤ 549755813888) (h4 : u.p + u.len ≤ 4294967296) : unitsL (rowU u) = [u] := by
  obtain ⟨ha, hn⟩ := rowU_ok h1 h2 h3 h4
  have hu : unitF (rowU u) = u.len := rfl
  have hp : 0 < u.len := by unfold Un.len; split <;> omega
  have hc : cntU (rowU u) = 1 := by
    unfold cntU
    rw [hn, hu, Nat.div_self hp]
  unfold unitsL
  rw [hc]
  show [unitAt (rowU u) 0] = [u]
  unfold unitAt
  rw [Nat.zero_mul]
  rfl
/-- the leaves of a row, from the i-th on -/
def eachN (x : L6) (i n : Nat) : List L6 := (List.range n).map fun k => rowU (unitAt x (i + k))
theorem eachN_succ (x : L6) (i n : Nat) : eachN x i (n + 1) = rowU (unitAt x i) :: eachN x (i + 1) n := by
  unfold eachN
  rw [List.range_succ_eq_map, List.map_cons, List.map_map]
  congr 1
  apply List.map_congr_left
  intro k _
  simp only [Function.comp]
  rw [show i + k.succ = i + 1 + k by omega]
theorem eachF_cons (x : L6) (xs : List L6) : eachF (x :: xs) = eachN x 0 (cntU x) ++ eachF xs := by
  unfold eachF units eachN
  rw [List.flatMap_cons, List.map_append]
  congr 1
  unfold unitsL unitsN
  rw [List.map_map]
  apply List.map_congr_left
  intro k _
  simp only [Function.comp, Nat.zero_add]
theorem each_refu : ∀ {n i t : Nat} {x : L6} {ys : List L6}, aloneF x = 0 → i + n = cntU x → t ≤ x.v + i * unitF x → refuF (x.v + x.n.toNat * 4096) ys = 0 → (n = 0 → refuF t ys = 0) → refuF t (eachN x i n ++ ys) = 0
  | 0, i, t, x, ys, _, _, _, _, h => h rfl
  | n + 1, i, t, x, ys, hx, hn, ht, hy, _ => by
    obtain ⟨a1, a2, a3, a4⟩ := unitAt_ok hx (i := i) (by omega)
    obtain ⟨x1, x2, x3, x4, x5, x6⟩ := aloneF_zero hx
    obtain ⟨r1, r2⟩ := rowU_ok a1 a2 (by omega) (by omega)
    rw [eachN_succ]
    show refuF t (rowU (unitAt x i) :: (eachN x (i + 1) n ++ ys)) = 0
    unfold refuF
    rw [if_neg (by omega), if_neg (show ¬ (rowU (unitAt x i)).v < t from Nat.not_lt.2 ht), r2]
    have e : (rowU (unitAt x i)).v + (unitAt x i).len = x.v + (i + 1) * unitF x := by
      show x.v + i * unitF x + unitF x = _
      rw [Nat.add_mul]
      omega
    rw [e]
    refine each_refu hx (by omega) (Nat.le_refl _) hy (fun h0 => ?_)
    subst h0
    rw [show i + 1 = cntU x by omega, (cntU_mul hx).1]
    exact hy
theorem each_ok : ∀ {xs : List L6} {t : Nat}, refuF t xs = 0 → refuF t (eachF xs) = 0 ∧ units (eachF xs) = units xs
  | [], t, _ => ⟨rfl, rfl⟩
  | x :: xs, t, h => by
    obtain ⟨h1, h2, h3⟩ := refuF_zero h
    obtain ⟨r, u⟩ := each_ok h3
    obtain ⟨x1, x2, x3, x4, x5, x6⟩ := aloneF_zero h1
    have hc := (cntU_mul h1).2
    constructor
    · rw [eachF_cons]
      exact each_refu h1 (by omega) (by rw [Nat.zero_mul]; exact h2) r (fun h0 => by omega)
    · rw [eachF_cons, units_app, u]
      show _ = (List.range (cntU x)).map (unitAt x) ++ units xs
      congr 1
      unfold units eachN
      rw [List.flatMap_map]
      have e : ∀ k ∈ List.range (cntU x), unitsL (rowU (unitAt x (0 + k))) = [unitAt x k] := fun k hk => by
        obtain ⟨a1, a2, a3, a4⟩ := unitAt_ok h1 (i := k) (List.mem_range.1 hk)
        rw [Nat.zero_add]
        exact units_rowU a1 a2 (by omega) (by omega)
      generalize List.range (cntU x) = l at e ⊢
      induction l with
      | nil => rfl
      | cons k l ih =>
        rw [List.flatMap_cons, List.map_cons]
        have e1 := e k (by simp)
        rw [e1, ih (fun j hj => e j (by simp [hj]))]
        rfl
/-- a row that is gone on with leaf by leaf -/
theorem runs_each : ∀ {n i : Nat} {x z : L6} {bs ys : List L6}, aloneF x = 0 → i + n = cntU x → 1 ≤ z.n → z.v + z.n.toNat * 4096 = x.v + i * unitF x → z.p + z.n.toNat * 4096 = x.p + i * unitF x → z.big = x.big → z.wr = x.wr → z.ex = x.ex → runsF (bs ++ [z]) (eachN x i n ++ ys) = runsF (bs ++ [⟨z.v, z.p, z.n + (n * unitF x / 4096 : Nat), z.big, z.wr, z.ex⟩]) ys
  | 0, i, x, z, bs, ys, _, _, _, _, _, _, _, _ => by
    rw [Nat.zero_mul]
    show runsF (bs ++ [z]) ys = _
    simp
  | n + 1, i, x, z, bs, ys, hx, hn, hz, h1, h2, h3, h4, h5 => by
    obtain ⟨a1, a2, a3, a4⟩ := unitAt_ok hx (i := i) (by omega)
    obtain ⟨x1, x2, x3, x4, x5, x6⟩ := aloneF_zero hx
    obtain ⟨r1, r2⟩ := rowU_ok a1 a2 (by omega) (by omega)
    have hu : (unitAt x i).len = unitF x := rfl
    rw [hu] at r2
    have hl : unitF x = 2097152 ∨ unitF x = 4096 := by rcases unitF_cases x with ⟨_, e⟩ | ⟨_, e⟩ <;> omega
    have en : (rowU (unitAt x i)).n = ((unitF x / 4096 : Nat) : Int) := rfl
    rw [eachN_succ]
    show runsF (bs ++ [z]) (rowU (unitAt x i) :: (eachN x (i + 1) n ++ ys)) = _
    rw [runsF_some, if_pos (show goesF z (rowU (unitAt x i)) = true from goesF_iff.2 ⟨h1.symm, h2.symm, h3.symm, h4.symm, h5.symm⟩)]
    have ej : (joinL z (rowU (unitAt x i))).n = z.n + ((unitF x / 4096 : Nat) : Int) := rfl
    have et : (joinL z (rowU (unitAt x i))).n.toNat * 4096 = z.n.toNat * 4096 + unitF x := by
      rw [ej]
      rcases hl with e | e <;> rw [e] <;> omega
    rw [runs_each (x := x) (z := joinL z (rowU (unitAt x i))) hx (by omega) (by rw [ej]; omega) (by rw [et, Nat.add_mul]; show z.v + _ = _; omega) (by rw [et, Nat.add_mul]; show z.p + _ = _; omega) h3 h4 h5]
    have ek : (joinL z (rowU (unitAt x i))).n + ((n * unitF x / 4096 : Nat) : Int) = z.n + (((n + 1) * unitF x / 4096 : Nat) : Int) := by
      rw [ej]
      rcases hl with e | e <;> rw [e] <;> omega
    rw [ek]
    rfl
theorem runs_eachF : ∀ {xs bs : List L6} {y : L6}, refuF 0 (bs ++ [y]) = 0 → refuF (endF 0 (bs ++ [y])) xs = 0 → runsF (bs ++ [y]) (eachF xs) = runsF (bs ++ [y]) xs
  | [], _, _, _, _ => rfl
  | x :: xs, bs, y, h, hx => by
    obtain ⟨h1, h2, h3⟩ := refuF_zero hx
    obtain ⟨b1, b2⟩ := refuF_app.1 h
    obtain ⟨y1, y2⟩ := refuF_one.1 b2
    obtain ⟨x1, x2, x3, x4, x5, x6⟩ := aloneF_zero h1
    obtain ⟨hm, hc⟩ := cntU_mul h1
    have hd : cntU x * unitF x / 4096 = x.n.toNat := by rw [hm]; omega
    rw [eachF_cons, runsF_some]
    by_cases hg : goesF y x = true
    · rw [if_pos hg]
      obtain ⟨g1, g2, g3, g4, g5⟩ := goesF_iff.1 hg
      obtain ⟨j1, j2⟩ := alone_join y1 h1 hg
      rw [runs_each (x := x) h1 (by omega) (aloneF_zero y1).1 (by rw [Nat.zero_mul]; exact g1.symm) (by rw [Nat.zero_mul]; exact g2.symm) g3.symm g4.symm g5.symm, hd]
      have e : (⟨y.v, y.p, y.n + (x.n.toNat : Int), y.big, y.wr, y.ex⟩ : L6) = joinL y x := by
        unfold joinL
        rw [Int.toNat_of_nonneg (by omega)]
      rw [e]
      refine runs_eachF (refuF_app.2 ⟨b1, refuF_one.2 ⟨j1, y2⟩⟩) ?_
      rw [endF_app]
      show refuF (y.v + (joinL y x).n.toNat * 4096) xs = 0
      rw [j2, Nat.add_mul, ← Nat.add_assoc, ← g1]
      exact h3
    · rw [if_neg hg]
      obtain ⟨c', hc'⟩ : ∃ c', cntU x = c' + 1 := ⟨cntU x - 1, by omega⟩
      have hgu : goesF y (rowU (unitAt x 0)) = goesF y x := by
        unfold goesF rowU unitAt
        simp only [Nat.zero_mul, Nat.add_zero]
      obtain ⟨a1, a2, a3, a4⟩ := unitAt_ok h1 (i := 0) (by omega)
      obtain ⟨r1, r2⟩ := rowU_ok a1 a2 (by omega) (by omega)
      have hu : (unitAt x 0).len = unitF x := rfl
      have en : (rowU (unitAt x 0)).n = ((unitF x / 4096 : Nat) : Int) := rfl
      have hl : unitF x = 2097152 ∨ unitF x = 4096 := by rcases unitF_cases x with ⟨_, e⟩ | ⟨_, e⟩ <;> omega
      rw [hc', eachN_succ]
      show runsF (bs ++ [y]) (rowU (unitAt x 0) :: (eachN x (0 + 1) c' ++ eachF xs)) = _
      rw [runsF_some, hgu, if_neg hg, runs_each (x := x) h1 (by omega) (aloneF_zero r1).1 (by rw [r2, hu]; show x.v + 0 * _ + _ = _; omega) (by rw [r2, hu]; show x.p + 0 * _ + _ = _; omega) rfl rfl rfl]
      have e : (⟨(rowU (unitAt x 0)).v, (rowU (unitAt x 0)).p, (rowU (unitAt x 0)).n + ((c' * unitF x / 4096 : Nat) : Int), (rowU (unitAt x 0)).big, (rowU (unitAt x 0)).wr, (rowU (unitAt x 0)).ex⟩ : L6) = x := by
        have e1 : (rowU (unitAt x 0)).n + ((c' * unitF x / 4096 : Nat) : Int) = x.n := by
          rw [hc'] at hd
          rw [en]
          rcases hl with e | e <;> rw [e] at hd ⊢ <;> omega
        rw [e1]
        unfold rowU unitAt
        simp only [Nat.zero_mul, Nat.add_zero]
      rw [e]
      exact runs_eachF (refuF_app.2 ⟨h, refuF_one.2 ⟨h1, h2⟩⟩) (by rw [endF_app]; exact h3)
theorem runs_each0 {xs : List L6} (h : refuF 0 xs = 0) : runsF [] (eachF xs) = runsF [] xs := by
  cases xs with
  | nil => rfl
  | cons x xs =>
    obtain ⟨h1, h2, h3⟩ := refuF_zero h
    obtain ⟨x1, x2, x3, x4, x5, x6⟩ := aloneF_zero h1
    obtain ⟨hm, hc⟩ := cntU_mul h1
    have hd : cntU x * unitF x / 4096 = x.n.toNat := by rw [hm]; omega
    obtain ⟨c', hc'⟩ : ∃ c', cntU x = c' + 1 := ⟨cntU x - 1, by omega⟩
    obtain ⟨a1, a2, a3, a4⟩ := unitAt_ok h1 (i := 0) (by omega)
    obtain ⟨r1, r2⟩ := rowU_ok a1 a2 (by omega) (by omega)
    have hu : (unitAt x 0).len = unitF x := rfl
    have en : (rowU (unitAt x 0)).n = ((unitF x / 4096 : Nat) : Int) := rfl
    have hl : unitF x = 2097152 ∨ unitF x = 4096 := by rcases unitF_cases x with ⟨_, e⟩ | ⟨_, e⟩ <;> omega
    rw [eachF_cons, hc', eachN_succ]
    show runsF [] (rowU (unitAt x 0) :: (eachN x (0 + 1) c' ++ eachF xs)) = _
    rw [runsF_none, runsF_none]
    have hr := runs_each (x := x) (bs := []) (ys := eachF xs) (z := rowU (unitAt x 0)) h1 (show 0 + 1 + c' = cntU x by omega) (aloneF_zero r1).1 (by rw [r2, hu]; show x.v + 0 * _ + _ = _; omega) (by rw [r2, hu]; show x.p + 0 * _ + _ = _; omega) rfl rfl rfl
    rw [List.nil_append] at hr
    rw [hr]
    have e : (⟨(rowU (unitAt x 0)).v, (rowU (unitAt x 0)).p, (rowU (unitAt x 0)).n + ((c' * unitF x / 4096 : Nat) : Int), (rowU (unitAt x 0)).big, (rowU (unitAt x 0)).wr, (rowU (unitAt x 0)).ex⟩ : L6) = x := by
      have e1 : (rowU (unitAt x 0)).n + ((c' * unitF x / 4096 : Nat) : Int) = x.n := by
        rw [hc'] at hd
        rw [en]
        rcases hl with e | e <;> rw [e] at hd ⊢ <;> omega
      rw [e1]
      unfold rowU unitAt
      simp only [Nat.zero_mul, Nat.add_zero]
    rw [e]
    exact runs_eachF (bs := []) (refuF_one.2 ⟨h1, h2⟩) h3
end Go.Proofs.Ytgjamnhepbblhaa
