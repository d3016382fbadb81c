import Derived.Test.YtlplbbnicfeoaaaGreatPk10
/- Pages: the tables hold the leaves, and no other. Own work. -/
namespace Go.Proofs.YtlplbbnicfeoaaaGreat
open Go.RowKit Wk
set_option linter.unusedVariables false
set_option maxRecDepth 20000
theorem val_pos (u : Un) : u.val ≠ 0 := by unfold Un.val; omega
theorem stepU_L {base : Nat} {s : Bst} {u : Un} : (stepU base s u).L1 = (if u.big = true then putM s.L1 (u.v / 2097152) u.val else s.L1) ∧ (stepU base s u).L2 = (if u.big = true then s.L2 else putM s.L2 (u.v / 4096) u.val) := by
  obtain ⟨_, _, r3, r4, _, _⟩ := step1_rest (base := base) (s := s) (v := u.v)
  obtain ⟨_, _, q3, q4, _, _⟩ := step2_rest (base := base) (s := step1 base s u.v) (v := u.v)
  unfold stepU downS leafS
  by_cases hb : u.big = true
  · rw [if_pos hb, if_pos hb, if_pos hb, if_pos hb]
    exact ⟨by rw [← r3], r4⟩
  · rw [if_neg hb, if_neg hb, if_neg hb, if_neg hb]
    exact ⟨q3.trans r3, by rw [← r4, ← q4]⟩
/-- the leaves that stand in the tables are just these -/
structure Kn (us : List Un) (s : Bst) : Prop where
  b1 : ∀ u ∈ us, u.big = true → s.L1 (u.v / 2097152) = u.val
  s1 : ∀ u ∈ us, u.big = false → s.L2 (u.v / 4096) = u.val
  b2 : ∀ b, s.L1 b ≠ 0 → ∃ u ∈ us, u.big = true ∧ u.v / 2097152 = b ∧ s.L1 b = u.val
  s2 : ∀ c, s.L2 c ≠ 0 → ∃ u ∈ us, u.big = false ∧ u.v / 4096 = c ∧ s.L2 c = u.val
  nb : ∀ b, s.L1 b ≠ 0 → s.B b = false
theorem stepU_B {base : Nat} {s : Bst} {u : Un} : (u.big = true → (stepU base s u).B = s.B) ∧ (∀ b, b ≠ u.v / 2097152 → (stepU base s u).B b = s.B b) := by
  obtain ⟨_, _, _, _, r5, _⟩ := step1_rest (base := base) (s := s) (v := u.v)
  have q : ∀ s' : Bst, (leafS s' u).B = s'.B := by intro s'; unfold leafS; split <;> rfl
  unfold stepU
  rw [q]
  unfold downS
  by_cases hb : u.big = true
  · rw [if_pos hb]
    exact ⟨fun _ => r5, fun b _ => by rw [r5]⟩
  · rw [if_neg hb]
    refine ⟨fun e => absurd e hb, fun b e => ?_⟩
    rw [← r5]
    unfold step2
    split
    · rfl
    · show putB (step1 base s u.v).B (u.v / 2097152) b = _
      exact putB_ne _ e
theorem kn0 : Kn [] bst0 := by
  refine ⟨?_, ?_, ?_, ?_, ?_⟩
  · intro u h; cases h
  · intro u h; cases h
  · intro b h; exact absurd rfl h
  · intro b h; exact absurd rfl h
  · intro b h; rfl
theorem Kn.step {base t : Nat} {us : List Un} {s : Bst} (h : Kn us s) (hc : Cl base s) (hu : Up t s) {u : Un} (ht : t ≤ u.v) (hal : u.v % u.len = 0) : Kn (us ++ [u]) (stepU base s u) := by
  obtain ⟨e1, e2⟩ := stepU_L (base := base) (s := s) (u := u)
  have hk1 : ∀ b, s.L1 b ≠ 0 → b ≠ u.v / 2097152 := fun b hb => by have := hu.l1 b hb; omega
  have hk2 : ∀ c, s.L2 c ≠ 0 → c ≠ u.v / 4096 := fun c hc => by have := hu.l2 c hc; omega
  by_cases hb : u.big = true
  · rw [if_pos hb] at e1 e2
    refine ⟨?_, ?_, ?_, ?_, ?_⟩
    · intro x hx hxb
      rw [e1]
      rcases List.mem_append.1 hx with hx | hx
      · have h5 := h.b1 x hx hxb
        rw [putM_ne _ (hk1 _ (by rw [h5]; exact val_pos x))]
        exact h5
      · rw [List.mem_singleton.1 hx, putM_at]
    · intro x hx hxb
      rw [e2]
      rcases List.mem_append.1 hx with hx | hx
      · exact h.s1 x hx hxb
      · rw [List.mem_singleton.1 hx, hb] at hxb
        cases hxb
    · intro b hz
      rw [e1] at hz ⊢
      by_cases e : b = u.v / 2097152
      · subst e
        exact ⟨u, by simp, hb, rfl, putM_at _ _ _⟩
      · rw [putM_ne _ e] at hz ⊢
        obtain ⟨x, hx, a1, a2, a3⟩ := h.b2 b hz
        exact ⟨x, by simp [hx], a1, a2, a3⟩
    · intro c hz
      rw [e2] at hz ⊢
      obtain ⟨x, hx, a1, a2, a3⟩ := h.s2 c hz
      exact ⟨x, by simp [hx], a1, a2, a3⟩
    · intro b hz
      rw [e1] at hz
      rw [(stepU_B (base := base) (s := s) (u := u)).1 hb]
      by_cases e : b = u.v / 2097152
      · have hlen : u.len = 2097152 := by unfold Un.len; rw [hb]; rfl
        rw [hlen] at hal
        cases hB : s.B b with
        | false => rfl
        | true =>
          have hlt := hc.hB b hB
          have hup := hu.u1 (by omega)
          exfalso
          omega
      · rw [putM_ne _ e] at hz
        exact h.nb b hz
  · rw [if_neg hb] at e1 e2
    have hbf : u.big = false := by simpa using hb
    refine ⟨?_, ?_, ?_, ?_, ?_⟩
    · intro x hx hxb
      rw [e1]
      rcases List.mem_append.1 hx with hx | hx
      · exact h.b1 x hx hxb
      · rw [List.mem_singleton.1 hx] at hxb
        exact absurd hxb hb
    · intro x hx hxb
      rw [e2]
      rcases List.mem_append.1 hx with hx | hx
      · have h5 := h.s1 x hx hxb
        rw [putM_ne _ (hk2 _ (by rw [h5]; exact val_pos x))]
        exact h5
      · rw [List.mem_singleton.1 hx, putM_at]
    · intro b hz
      rw [e1] at hz ⊢
      obtain ⟨x, hx, a1, a2, a3⟩ := h.b2 b hz
      exact ⟨x, by simp [hx], a1, a2, a3⟩
    · intro c hz
      rw [e2] at hz ⊢
      by_cases e : c = u.v / 4096
      · subst e
        exact ⟨u, by simp, hbf, rfl, putM_at _ _ _⟩
      · rw [putM_ne _ e] at hz ⊢
        obtain ⟨x, hx, a1, a2, a3⟩ := h.s2 c hz
        exact ⟨x, by simp [hx], a1, a2, a3⟩
    · intro b hz
      rw [e1] at hz
      rw [(stepU_B (base := base) (s := s) (u := u)).2 b (hk1 b hz)]
      exact h.nb b hz
theorem kn_row {base t : Nat} {us : List Un} {s : Bst} {x : L6} (hx : aloneF x = 0) (ht : t ≤ x.v) (hc : Cl base s) (hu : Up t s) (h : Kn us s) : ∀ i, i ≤ cntU x → Kn (us ++ unitsN x i) (buildU base s (unitsN x i))
  | 0, _ => by
    have e : us ++ unitsN x 0 = us := by simp [unitsN]
    rw [e]
    exact h
  | i + 1, hi => by
    have ih := kn_row hx ht hc hu h i (by omega)
    obtain ⟨c, u⟩ := row_good hx ht hc hu i (by omega)
    rw [buildU_succ, unitsN_succ, ← List.append_assoc]
    refine ih.step c u (u := unitAt x i) (Nat.le_refl _) ?_
    rw [unitAt_len]
    show (x.v + i * unitF x) % unitF x = 0
    rw [Nat.add_mul_mod_self_right]
    exact (aloneF_zero hx).2.1
theorem kn_rows {base : Nat} : ∀ {xs : List L6} {t : Nat} {us : List Un} {s : Bst}, refuF t xs = 0 → Cl base s → Up t s → Kn us s → Kn (us ++ units xs) (buildU base s (units xs))
  | [], _, us, _, _, _, _, h => by
    have e : us ++ units [] = us := by simp [units]
    rw [e]
    exact h
  | x :: xs, t, us, s, hr, hc, hu, h => by
    obtain ⟨h1, h2, h3⟩ := refuF_zero hr
    obtain ⟨c, u⟩ := row_good h1 h2 hc hu (cntU x) (Nat.le_refl _)
    rw [(cntU_mul h1).1] at u
    have r := kn_row h1 h2 hc hu h (cntU x) (Nat.le_refl _)
    have e : buildU base s (units (x :: xs)) = buildU base (buildU base s (unitsN x (cntU x))) (units xs) := by
      rw [← buildU_app]; rfl
    have e2 : us ++ units (x :: xs) = us ++ unitsN x (cntU x) ++ units xs := by
      rw [List.append_assoc]; rfl
    rw [e, e2]
    exact kn_rows h3 c u r
theorem Kn.has {base : Nat} {us : List Un} {s : Bst} (hk : Kn us s) (hc : Cl base s) : ∀ u ∈ us, s.A (u.v / 1073741824) = true ∧ (u.big = false → s.B (u.v / 2097152) = true) := by
  intro u hu
  cases hb : u.big with
  | true =>
    have h1 := hc.L1A (u.v / 2097152) (by rw [hk.b1 u hu hb]; exact val_pos u)
    rw [Nat.div_div_eq_div_mul] at h1
    exact ⟨h1, fun e => by cases e⟩
  | false =>
    have h1 := hc.L2B (u.v / 4096) (by rw [hk.s1 u hu hb]; exact val_pos u)
    rw [Nat.div_div_eq_div_mul] at h1
    have h2 := hc.BA _ h1
    rw [Nat.div_div_eq_div_mul] at h2
    exact ⟨h2, fun _ => h1⟩
/-- what the tables say of an address that a leaf holds -/
theorem walk_yes {base : Nat} {us : List Un} {s : Bst} (hc : Cl base s) (hk : Kn us s) {u : Un} (hu : u ∈ us) (hl : u.v % u.len = 0) {a : Nat} (h1 : u.v ≤ a) (h2 : a < u.v + u.len) (ha : a < 549755813888) :
    s.A (a / 1073741824) = true ∧ s.M (a / 1073741824) = base + T1 s.A s.B (a / 1073741824) * 4096 + 1 ∧ (u.big = true → s.B (a / 2097152) = false ∧ s.M (T1 s.A s.B (a / 1073741824) * 512 + a / 2097152 % 512) = u.val) ∧ (u.big = false → s.B (a / 2097152) = true ∧ s.M (T1 s.A s.B (a / 1073741824) * 512 + a / 2097152 % 512) = base + T2 s.A s.B (a / 2097152) * 4096 + 1 ∧ s.M (T2 s.A s.B (a / 2097152) * 512 + a / 4096 % 512) = u.val) := by
  obtain ⟨hA1, hB1⟩ := hk.has hc u hu
  have hlen : (u.big = true ∧ u.len = 2097152) ∨ (u.big = false ∧ u.len = 4096) := by unfold Un.len; cases u.big <;> simp
  have e0 : a / 1073741824 = u.v / 1073741824 := by rcases hlen with ⟨_, e⟩ | ⟨_, e⟩ <;> rw [e] at hl h2 <;> omega
  have e1 : a / 2097152 = u.v / 2097152 := by rcases hlen with ⟨_, e⟩ | ⟨_, e⟩ <;> rw [e] at hl h2 <;> omega
  have hAa : s.A (a / 1073741824) = true := by rw [e0]; exact hA1
  have ek : a / 1073741824 * 512 + a / 2097152 % 512 = a / 2097152 := by omega
  have hmid := hc.c1 _ hAa (a / 2097152 % 512) (Nat.mod_lt _ (by decide))
  rw [ek] at hmid
  refine ⟨hAa, ?_, ?_, ?_⟩
  · rw [hc.c0 _ (show a / 1073741824 < 512 by omega), hAa, cond_true]
  · intro hb
    have hL := hk.b1 u hu hb
    have hnB : s.B (a / 2097152) = false := by
      rw [e1]
      exact hk.nb _ (by rw [hL]; exact val_pos u)
    refine ⟨hnB, ?_⟩
    rw [hmid, hnB, cond_false, e1]
    exact hL
  · intro hb
    have hBb : s.B (a / 2097152) = true := by rw [e1]; exact hB1 hb
    have hlen4 : u.len = 4096 := by rcases hlen with ⟨e, _⟩ | ⟨_, e⟩; · rw [hb] at e; cases e
                                    · exact e
    have e2 : a / 4096 = u.v / 4096 := by rw [hlen4] at hl h2; omega
    refine ⟨hBb, by rw [hmid, hBb, cond_true], ?_⟩
    have hlow := hc.c2 _ hBb (a / 4096 % 512) (Nat.mod_lt _ (by decide))
    rw [show a / 2097152 * 512 + a / 4096 % 512 = a / 4096 by omega] at hlow
    rw [hlow, e2]
    exact hk.s1 u hu hb
/-- what the tables say of an address that no leaf holds -/
theorem walk_no {base : Nat} {us : List Un} {s : Bst} (hc : Cl base s) (hk : Kn us s) (hal : ∀ u ∈ us, u.v % u.len = 0) {a : Nat} (hno : ∀ u ∈ us, ¬ (u.v ≤ a ∧ a < u.v + u.len)) (ha : a < 549755813888) :
    (s.A (a / 1073741824) = false ∧ s.M (a / 1073741824) = 0) ∨ (s.A (a / 1073741824) = true ∧ s.M (a / 1073741824) = base + T1 s.A s.B (a / 1073741824) * 4096 + 1 ∧ ((s.B (a / 2097152) = false ∧ s.M (T1 s.A s.B (a / 1073741824) * 512 + a / 2097152 % 512) = 0) ∨ (s.B (a / 2097152) = true ∧ s.M (T1 s.A s.B (a / 1073741824) * 512 + a / 2097152 % 512) = base + T2 s.A s.B (a / 2097152) * 4096 + 1 ∧ s.M (T2 s.A s.B (a / 2097152) * 512 + a / 4096 % 512) = 0))) := by
  have h0 := hc.c0 _ (show a / 1073741824 < 512 by omega)
  cases hA : s.A (a / 1073741824) with
  | false =>
    rw [hA, cond_false] at h0
    exact .inl ⟨rfl, h0⟩
  | true =>
    rw [hA, cond_true] at h0
    refine .inr ⟨rfl, h0, ?_⟩
    have ek : a / 1073741824 * 512 + a / 2097152 % 512 = a / 2097152 := by omega
    have hmid := hc.c1 _ hA (a / 2097152 % 512) (Nat.mod_lt _ (by decide))
    rw [ek] at hmid
    cases hB : s.B (a / 2097152) with
    | false =>
      rw [hB, cond_false] at hmid
      refine .inl ⟨rfl, hmid.trans ?_⟩
      refine Decidable.byContradiction fun hz => ?_
      obtain ⟨u, hu, hb, hv, _⟩ := hk.b2 _ hz
      have hlen : u.len = 2097152 := by unfold Un.len; rw [hb]; rfl
      have h5 := hal u hu
      have h6 := hno u hu
      rw [hlen] at h5 h6
      omega
    | true =>
      rw [hB, cond_true] at hmid
      refine .inr ⟨rfl, hmid, ?_⟩
      have hlow := hc.c2 _ hB (a / 4096 % 512) (Nat.mod_lt _ (by decide))
      rw [show a / 2097152 * 512 + a / 4096 % 512 = a / 4096 by omega] at hlow
      refine hlow.trans ?_
      refine Decidable.byContradiction fun hz => ?_
      obtain ⟨u, hu, hb, hv, _⟩ := hk.s2 _ hz
      have hlen : u.len = 4096 := by unfold Un.len; rw [hb]; rfl
      have h5 := hal u hu
      have h6 := hno u hu
      rw [hlen] at h5 h6
      omega
end Go.Proofs.YtlplbbnicfeoaaaGreat
/- Pages: an address, its leaf and its entries. Own work. -/
namespace Go.Proofs.YtlplbbnicfeoaaaGreat
open Go.RowKit Wk
set_option linter.unusedVariables false
set_option maxRecDepth 20000
theorem refuF_all : ∀ {xs : List L6} {t : Nat}, refuF t xs = 0 → ∀ x ∈ xs, aloneF x = 0
  | [], _, _ => by intro x h; cases h
  | y :: ys, t, hr => by
    intro x hx
    obtain ⟨h1, _, h3⟩ := refuF_zero hr
    rcases List.mem_cons.1 hx with e | e
    · rw [e]; exact h1
    · exact refuF_all h3 x e
theorem units_mem {xs : List L6} {u : Un} : u ∈ units xs ↔ ∃ x ∈ xs, ∃ i, i < cntU x ∧ u = unitAt x i := by
  unfold units unitsL unitsN
  simp only [List.mem_flatMap, List.mem_map, List.mem_range]
  constructor
  · rintro ⟨x, hx, i, hi, e⟩
    exact ⟨x, hx, i, hi, e.symm⟩
  · rintro ⟨x, hx, i, hi, e⟩
    exact ⟨x, hx, i, hi, e.symm⟩
theorem units_al {xs : List L6} (hr : refuF 0 xs = 0) : ∀ u ∈ units xs, u.v % u.len = 0 := by
  intro u hu
  obtain ⟨x, hx, i, hi, e⟩ := units_mem.1 hu
  rw [e, unitAt_len]
  show (x.v + i * unitF x) % unitF x = 0
  rw [Nat.add_mul_mod_self_right]
  exact (aloneF_zero (refuF_all hr x hx)).2.1
/-- an address lies in a row just where it lies in one of the row's units -/
theorem row_unit {x : L6} (hx : aloneF x = 0) {a : Nat} : (x.v ≤ a ∧ a < x.v + x.n.toNat * 4096) ↔ ∃ i, i < cntU x ∧ (unitAt x i).v ≤ a ∧ a < (unitAt x i).v + unitF x := by
  obtain ⟨hm, _⟩ := cntU_mul hx
  have hpos : 0 < unitF x := by rcases unitF_cases x with ⟨_, e⟩ | ⟨_, e⟩ <;> omega
  constructor
  · rintro ⟨h1, h2⟩
    have h4 : (a - x.v) / unitF x * unitF x ≤ a - x.v := Nat.div_mul_le_self _ _
    have h5 : a - x.v < ((a - x.v) / unitF x + 1) * unitF x := by
      have := Nat.lt_div_mul_add (a := a - x.v) hpos
      rw [Nat.add_mul]
      omega
    refine ⟨(a - x.v) / unitF x, ?_, ?_, ?_⟩
    · rw [Nat.div_lt_iff_lt_mul hpos, hm]
      omega
    · show x.v + (a - x.v) / unitF x * unitF x ≤ a
      omega
    · show a < x.v + (a - x.v) / unitF x * unitF x + unitF x
      rw [Nat.add_mul] at h5
      omega
  · rintro ⟨i, hi, h1, h2⟩
    have h1' : x.v + i * unitF x ≤ a := h1
    have h2' : a < x.v + i * unitF x + unitF x := h2
    have hle : (i + 1) * unitF x ≤ cntU x * unitF x := Nat.mul_le_mul_right _ hi
    rw [hm, Nat.add_mul] at hle
    omega
theorem rows_unit {xs : List L6} (hr : refuF 0 xs = 0) {a : Nat} : (∃ x ∈ xs, x.v ≤ a ∧ a < x.v + x.n.toNat * 4096) ↔ ∃ u ∈ units xs, u.v ≤ a ∧ a < u.v + u.len := by
  constructor
  · rintro ⟨x, hx, h⟩
    obtain ⟨i, hi, h1, h2⟩ := (row_unit (refuF_all hr x hx)).1 h
    exact ⟨unitAt x i, units_mem.2 ⟨x, hx, i, hi, rfl⟩, h1, h2⟩
  · rintro ⟨u, hu, h1, h2⟩
    obtain ⟨x, hx, i, hi, e⟩ := units_mem.1 hu
    subst e
    exact ⟨x, hx, (row_unit (refuF_all hr x hx)).2 ⟨i, hi, h1, h2⟩⟩
/-- the whole build -/
theorem kn_full {xs : List L6} (base : Nat) (hr : refuF 0 xs = 0) : Kn (units xs) (buildU base bst0 (units xs)) ∧ Cl base (buildU base bst0 (units xs)) := ⟨kn_rows hr (cl0 base) up0 kn0, (rows_good hr (cl0 base) up0).1⟩
theorem full_no {xs : List L6} {base : Nat} {s : Bst} (hs : s = buildU base bst0 (units xs)) (hr : refuF 0 xs = 0) {a : Nat} (ha : a < 549755813888) (hno : ∀ x ∈ xs, ¬ (x.v ≤ a ∧ a < x.v + x.n.toNat * 4096)) :
    (s.A (a / 1073741824) = false ∧ s.M (a / 1073741824) = 0) ∨ (s.A (a / 1073741824) = true ∧ s.M (a / 1073741824) = base + T1 s.A s.B (a / 1073741824) * 4096 + 1 ∧ ((s.B (a / 2097152) = false ∧ s.M (T1 s.A s.B (a / 1073741824) * 512 + a / 2097152 % 512) = 0) ∨ (s.B (a / 2097152) = true ∧ s.M (T1 s.A s.B (a / 1073741824) * 512 + a / 2097152 % 512) = base + T2 s.A s.B (a / 2097152) * 4096 + 1 ∧ s.M (T2 s.A s.B (a / 2097152) * 512 + a / 4096 % 512) = 0))) := by
  subst hs
  exact walk_no (kn_full base hr).2 (kn_full base hr).1 (units_al hr) (a := a) (fun u hu h => by obtain ⟨x, hx, h2⟩ := (rows_unit hr).2 ⟨u, hu, h⟩; exact hno x hx h2) ha
theorem full_yes {xs : List L6} {base : Nat} {s : Bst} (hs : s = buildU base bst0 (units xs)) (hr : refuF 0 xs = 0) {x : L6} (hx : x ∈ xs) {i : Nat} (hi : i < cntU x) {a : Nat} (h1 : (unitAt x i).v ≤ a) (h2 : a < (unitAt x i).v + unitF x) (ha : a < 549755813888) :
    s.A (a / 1073741824) = true ∧ s.M (a / 1073741824) = base + T1 s.A s.B (a / 1073741824) * 4096 + 1 ∧ (x.big = true → s.B (a / 2097152) = false ∧ s.M (T1 s.A s.B (a / 1073741824) * 512 + a / 2097152 % 512) = (unitAt x i).val) ∧ (x.big = false → s.B (a / 2097152) = true ∧ s.M (T1 s.A s.B (a / 1073741824) * 512 + a / 2097152 % 512) = base + T2 s.A s.B (a / 2097152) * 4096 + 1 ∧ s.M (T2 s.A s.B (a / 2097152) * 512 + a / 4096 % 512) = (unitAt x i).val) := by
  subst hs
  have hu := units_mem.2 ⟨x, hx, i, hi, rfl⟩
  exact walk_yes (kn_full base hr).2 (kn_full base hr).1 hu (units_al hr _ hu) h1 h2 ha
end Go.Proofs.YtlplbbnicfeoaaaGreat
