import Derived.Test.YtgjamnhepbblhaaPk20
import Derived.Test.YtgjamnhepbblhaaPk11
import Derived.Laws.Tables
import Derived.Great.BuildSlice
/- Pages: the document's tables, plainly. Own work. -/
namespace Go.Proofs.Ytgjamnhepbblhaa
open Go.RowKit Wk
set_option linter.unusedVariables false
set_option maxRecDepth 20000
/-- the document's tables: level and number -/
def tsStep (ts : List (Nat × Nat)) (big : Bool) (b : Nat) : List (Nat × Nat) :=
  if big = true then (if (1, b / 512) ∈ ts then ts else ts ++ [(1, b / 512)])
  else (if (2, b) ∈ (if (1, b / 512) ∈ ts then ts else ts ++ [(1, b / 512)]) then (if (1, b / 512) ∈ ts then ts else ts ++ [(1, b / 512)]) else (if (1, b / 512) ∈ ts then ts else ts ++ [(1, b / 512)]) ++ [(2, b)])
def ts1 (ts : List (Nat × Nat)) (a : Nat) : List (Nat × Nat) := if (1, a) ∈ ts then ts else ts ++ [(1, a)]
def ts2 (ts : List (Nat × Nat)) (b : Nat) : List (Nat × Nat) := if (2, b) ∈ ts then ts else ts ++ [(2, b)]
theorem tsStep_eq (ts : List (Nat × Nat)) (big : Bool) (b : Nat) : tsStep ts big b = if big = true then ts1 ts (b / 512) else ts2 (ts1 ts (b / 512)) b := rfl
def tsU (ts : List (Nat × Nat)) (us : List Un) : List (Nat × Nat) := us.foldl (fun ts u => tsStep ts u.big (u.v / 2097152)) ts
theorem tsU_app (ts : List (Nat × Nat)) (us vs : List Un) : tsU ts (us ++ vs) = tsU (tsU ts us) vs := by simp [tsU, List.foldl_append]
/-- the document's tables stand where the builder's do -/
structure Rt (ts : List (Nat × Nat)) (s : Bst) : Prop where
  len : ts.length = s.nx
  z : ts[0]? = some (0, 0)
  A : ∀ a, s.A a = true → ts[T1 s.A s.B a]? = some (1, a)
  B : ∀ b, s.B b = true → ts[T2 s.A s.B b]? = some (2, b)
  mem : ∀ i lv k, ts[i]? = some (lv, k) → (i = 0 ∧ lv = 0 ∧ k = 0) ∨ (lv = 1 ∧ s.A k = true ∧ i = T1 s.A s.B k) ∨ (lv = 2 ∧ s.B k = true ∧ i = T2 s.A s.B k)
theorem rt0 : Rt [(0, 0)] bst0 where
  len := rfl
  z := rfl
  A := fun _ h => by cases h
  B := fun _ h => by cases h
  mem := fun i lv k h => by
    rcases i with _ | i
    · simp only [List.getElem?_cons_zero, Option.some.injEq, Prod.mk.injEq] at h
      exact Or.inl ⟨rfl, h.1.symm, h.2.symm⟩
    · simp at h
theorem Rt.has1 {ts : List (Nat × Nat)} {s : Bst} (h : Rt ts s) (a : Nat) : (1, a) ∈ ts ↔ s.A a = true := by
  constructor
  · intro hm
    obtain ⟨i, hi⟩ := List.mem_iff_getElem?.1 hm
    rcases h.mem i 1 a hi with ⟨_, e, _⟩ | ⟨_, e, _⟩ | ⟨e, _⟩
    · cases e
    · exact e
    · cases e
  · intro ha
    exact List.mem_iff_getElem?.2 ⟨_, h.A a ha⟩
theorem Rt.has2 {ts : List (Nat × Nat)} {s : Bst} (h : Rt ts s) (b : Nat) : (2, b) ∈ ts ↔ s.B b = true := by
  constructor
  · intro hm
    obtain ⟨i, hi⟩ := List.mem_iff_getElem?.1 hm
    rcases h.mem i 2 b hi with ⟨_, e, _⟩ | ⟨e, _⟩ | ⟨_, e, _⟩
    · cases e
    · cases e
    · exact e
  · intro ha
    exact List.mem_iff_getElem?.2 ⟨_, h.B b ha⟩
theorem Cl.new1 {base : Nat} {s : Bst} (h : Cl base s) {k : Nat} (hk : ¬ k < s.n0) : T1 s.A s.B k = s.nx := by
  have hn1 := h.n1_le
  have hcA : cntB s.A k = cntB s.A s.n0 := cntB_none (by omega) (fun i h1 _ => h.noA h1)
  have hcB : cntB s.B (k * 512) = cntB s.B s.n1 := cntB_none (by omega) (fun i h1 _ => h.noB h1)
  unfold T1
  rw [hcA, hcB, h.nx]
theorem Cl.new2 {base : Nat} {s : Bst} (h : Cl base s) {k : Nat} (h0 : k / 512 + 1 = s.n0) (hk : ¬ k < s.n1) : T2 s.A s.B k = s.nx := by
  have hcB : cntB s.B k = cntB s.B s.n1 := cntB_none (by omega) (fun i h1 _ => h.noB h1)
  unfold T2
  rw [h0, hcB, h.nx]
theorem Rt.step1 {base t : Nat} {ts : List (Nat × Nat)} {s : Bst} (h : Rt ts s) (hc : Cl base s) (hu : Up t s) {v : Nat} (ht : t ≤ v) : Rt (ts1 ts (v / 1073741824)) (step1 base s v) := by
  by_cases hk : v / 1073741824 < s.n0
  · have e : v / 1073741824 = s.n0 - 1 := by have := hu.u0 (by omega); omega
    have es : Go.Proofs.Ytgjamnhepbblhaa.step1 base s v = s := by unfold Go.Proofs.Ytgjamnhepbblhaa.step1; rw [if_pos hk]
    rw [es]
    unfold ts1
    rw [if_pos ((h.has1 _).2 (by rw [e]; exact hc.lA (by omega)))]
    exact h
  · have hnew := hc.new1 hk
    have hno : ¬ (1, v / 1073741824) ∈ ts := fun hm => by have := (h.has1 _).1 hm; rw [hc.noA (by omega)] at this; cases this
    unfold ts1 Go.Proofs.Ytgjamnhepbblhaa.step1
    rw [if_neg hno, if_neg hk]
    generalize v / 1073741824 = k at *
    have eT1 : ∀ a, s.A a = true → T1 (putB s.A k) s.B a = T1 s.A s.B a := fun a ha => by
      have := hc.hA a ha
      unfold T1
      rw [cntB_put (by omega)]
    have eTk : T1 (putB s.A k) s.B k = s.nx := by
      rw [← hnew]
      unfold T1
      rw [cntB_put (Nat.le_refl _)]
    have eT2 : ∀ b, s.B b = true → T2 (putB s.A k) s.B b = T2 s.A s.B b := fun b hb => by
      have := hc.hA _ (hc.BA b hb)
      unfold T2
      rw [cntB_put (by omega)]
    have hl := h.len
    refine { len := by simp [hl], z := by rw [List.getElem?_append_left (by have := hc.nx; omega)]; exact h.z, A := ?_, B := ?_, mem := ?_ }
    · intro a ha
      simp only at ha ⊢
      by_cases e : a = k
      · subst e
        rw [eTk, ← hl, List.getElem?_concat_length]
      · rw [putB_ne _ e] at ha
        have := hc.t1_lt ha
        rw [eT1 a ha, List.getElem?_append_left (by omega)]
        exact h.A a ha
    · intro b hb
      simp only at hb ⊢
      have := hc.t2_lt hb
      rw [eT2 b hb, List.getElem?_append_left (by omega)]
      exact h.B b hb
    · intro i lv q hi
      simp only
      by_cases hil : i < ts.length
      · rw [List.getElem?_append_left hil] at hi
        rcases h.mem i lv q hi with h1 | ⟨h1, h2, h3⟩ | ⟨h1, h2, h3⟩
        · exact Or.inl h1
        · refine Or.inr (Or.inl ⟨h1, ?_, ?_⟩)
          · unfold putB; split
            · rfl
            · exact h2
          · rw [eT1 q h2]; exact h3
        · exact Or.inr (Or.inr ⟨h1, h2, by rw [eT2 q h2]; exact h3⟩)
      · have hil2 : i = ts.length := by
          have := (List.getElem?_eq_some_iff.1 hi).1
          simp at this
          omega
        rw [hil2, List.getElem?_concat_length] at hi
        simp only [Option.some.injEq, Prod.mk.injEq] at hi
        obtain ⟨rfl, rfl⟩ := hi
        exact Or.inr (Or.inl ⟨rfl, putB_at _ _, by rw [eTk, hil2, hl]⟩)
theorem Rt.step2 {base : Nat} {ts : List (Nat × Nat)} {s : Bst} (h : Rt ts s) (hc : Cl base s) {v : Nat} (h0 : v / 1073741824 + 1 = s.n0) (hu1 : s.n1 ≠ 0 → (s.n1 - 1) * 2097152 ≤ v) : Rt (ts2 ts (v / 2097152)) (step2 base s v) := by
  by_cases hk : v / 2097152 < s.n1
  · have e : v / 2097152 = s.n1 - 1 := by have := hu1 (by omega); omega
    have es : Go.Proofs.Ytgjamnhepbblhaa.step2 base s v = s := by unfold Go.Proofs.Ytgjamnhepbblhaa.step2; rw [if_pos hk]
    rw [es]
    unfold ts2
    rw [if_pos ((h.has2 _).2 (by rw [e]; exact hc.lB (by omega)))]
    exact h
  · have hk0 : v / 2097152 / 512 + 1 = s.n0 := by omega
    have hnew := hc.new2 hk0 hk
    have hno : ¬ (2, v / 2097152) ∈ ts := fun hm => by have := (h.has2 _).1 hm; rw [hc.noB (by omega)] at this; cases this
    unfold ts2 Go.Proofs.Ytgjamnhepbblhaa.step2
    rw [if_neg hno, if_neg hk]
    generalize v / 2097152 = k at *
    have eT1 : ∀ a, s.A a = true → T1 s.A (putB s.B k) a = T1 s.A s.B a := fun a ha => by
      have := hc.hA a ha
      unfold T1
      rw [cntB_put (by omega)]
    have eT2 : ∀ b, s.B b = true → T2 s.A (putB s.B k) b = T2 s.A s.B b := fun b hb => by
      have := hc.hB b hb
      unfold T2
      rw [cntB_put (by omega)]
    have eTk : T2 s.A (putB s.B k) k = s.nx := by
      rw [← hnew]
      unfold T2
      rw [cntB_put (Nat.le_refl _)]
    have hl := h.len
    refine { len := by simp [hl], z := by rw [List.getElem?_append_left (by have := hc.nx; omega)]; exact h.z, A := ?_, B := ?_, mem := ?_ }
    · intro a ha
      simp only at ha ⊢
      have := hc.t1_lt ha
      rw [eT1 a ha, List.getElem?_append_left (by omega)]
      exact h.A a ha
    · intro b hb
      simp only at hb ⊢
      by_cases e : b = k
      · subst e
        rw [eTk, ← hl, List.getElem?_concat_length]
      · rw [putB_ne _ e] at hb
        have := hc.t2_lt hb
        rw [eT2 b hb, List.getElem?_append_left (by omega)]
        exact h.B b hb
    · intro i lv q hi
      simp only
      by_cases hil : i < ts.length
      · rw [List.getElem?_append_left hil] at hi
        rcases h.mem i lv q hi with h1 | ⟨h1, h2, h3⟩ | ⟨h1, h2, h3⟩
        · exact Or.inl h1
        · exact Or.inr (Or.inl ⟨h1, h2, by rw [eT1 q h2]; exact h3⟩)
        · refine Or.inr (Or.inr ⟨h1, ?_, ?_⟩)
          · unfold putB; split
            · rfl
            · exact h2
          · rw [eT2 q h2]; exact h3
      · have hil2 : i = ts.length := by
          have := (List.getElem?_eq_some_iff.1 hi).1
          simp at this
          omega
        rw [hil2, List.getElem?_concat_length] at hi
        simp only [Option.some.injEq, Prod.mk.injEq] at hi
        obtain ⟨rfl, rfl⟩ := hi
        exact Or.inr (Or.inr ⟨rfl, putB_at _ _, by rw [eTk, hil2, hl]⟩)
theorem Rt.leaf {ts : List (Nat × Nat)} {s : Bst} (h : Rt ts s) (u : Un) : Rt ts (leafS s u) := by
  unfold leafS
  split
  · exact ⟨h.len, h.z, h.A, h.B, h.mem⟩
  · exact ⟨h.len, h.z, h.A, h.B, h.mem⟩
theorem Rt.stepU {base t : Nat} {ts : List (Nat × Nat)} {s : Bst} (h : Rt ts s) (hc : Cl base s) (hu : Up t s) {u : Un} (ht : t ≤ u.v) (hv : u.v < 549755813888) : Rt (tsStep ts u.big (u.v / 2097152)) (stepU base s u) := by
  have e : u.v / 2097152 / 512 = u.v / 1073741824 := by rw [Nat.div_div_eq_div_mul]
  have r1 := h.step1 hc hu ht
  rw [tsStep_eq, e]
  unfold Go.Proofs.Ytgjamnhepbblhaa.stepU
  unfold downS
  by_cases hb : u.big = true
  · rw [if_pos hb, if_pos hb]
    exact r1.leaf u
  · rw [if_neg hb, if_neg hb]
    refine Rt.leaf ?_ u
    refine r1.step2 (hc.step1 hv) (step1_n0 hu ht).symm ?_
    rw [step1_rest.1]
    intro h1
    have := hu.u1 h1
    omega
theorem rt_row {base t : Nat} {ts : List (Nat × Nat)} {s : Bst} {x : L6} (hx : aloneF x = 0) (ht : t ≤ x.v) (hc : Cl base s) (hu : Up t s) (h : Rt ts s) : ∀ i, i ≤ cntU x → Rt (tsU ts (unitsN x i)) (buildU base s (unitsN x i))
  | 0, _ => h
  | i + 1, hi => by
    have ih := rt_row hx ht hc hu h i (by omega)
    obtain ⟨c, u⟩ := row_good hx ht hc hu i (by omega)
    obtain ⟨h1, h2, h3, h4, h5, h6⟩ := aloneF_zero hx
    have hm := (cntU_mul hx).1
    have hle : (i + 1) * unitF x ≤ cntU x * unitF x := Nat.mul_le_mul_right _ hi
    rw [Nat.add_mul] at hle
    have hpos : 0 < unitF x := by rcases unitF_cases x with ⟨_, e⟩ | ⟨_, e⟩ <;> omega
    rw [buildU_succ, unitsN_succ, tsU_app]
    exact ih.stepU c u (u := unitAt x i) (Nat.le_refl _) (by show x.v + i * unitF x < _; omega)
theorem rt_rows {base : Nat} : ∀ {xs : List L6} {t : Nat} {s : Bst} {ts : List (Nat × Nat)}, refuF t xs = 0 → Cl base s → Up t s → Rt ts s → Rt (tsU ts (units xs)) (buildU base s (units xs))
  | [], _, _, _, _, _, _, h => h
  | x :: xs, t, s, ts, hr, hc, hu, h => by
    obtain ⟨h1, h2, h3⟩ := refuF_zero hr
    obtain ⟨c, u⟩ := row_good h1 h2 hc hu (cntU x) (Nat.le_refl _)
    rw [(cntU_mul h1).1] at u
    have r := rt_row h1 h2 hc hu h (cntU x) (Nat.le_refl _)
    have e : buildU base s (units (x :: xs)) = buildU base (buildU base s (unitsN x (cntU x))) (units xs) := by
      rw [← buildU_app]; rfl
    have e2 : tsU ts (units (x :: xs)) = tsU (tsU ts (unitsN x (cntU x))) (units xs) := by
      rw [← tsU_app]; rfl
    rw [e, e2]
    exact rt_rows h3 c u r
/-- chunk by chunk -/
def chF (ts : List (Nat × Nat)) (big : Bool) (b0 : Nat) : Nat → List (Nat × Nat)
  | 0 => ts
  | j + 1 => tsStep (chF ts big b0 j) big (b0 + j)
theorem ts1_mem (ts : List (Nat × Nat)) (a : Nat) : (1, a) ∈ ts1 ts a := by
  unfold ts1
  split
  · assumption
  · simp
theorem ts2_mem (ts : List (Nat × Nat)) (b : Nat) : (2, b) ∈ ts2 ts b := by
  unfold ts2
  split
  · assumption
  · simp
theorem ts2_keeps {ts : List (Nat × Nat)} {b : Nat} {y : Nat × Nat} (h : y ∈ ts) : y ∈ ts2 ts b := by
  unfold ts2
  split
  · exact h
  · simp [h]
theorem tsStep_twice (ts : List (Nat × Nat)) (big : Bool) (b : Nat) : tsStep (tsStep ts big b) big b = tsStep ts big b := by
  rw [tsStep_eq, tsStep_eq]
  by_cases hb : big = true
  · rw [if_pos hb, if_pos hb]
    generalize b / 512 = a
    have := ts1_mem ts a
    generalize ts1 ts a = q at *
    unfold ts1
    rw [if_pos this]
  · rw [if_neg hb, if_neg hb]
    generalize hq : ts1 ts (b / 512) = q
    have h1 : (1, b / 512) ∈ ts2 q b := ts2_keeps (by rw [← hq]; exact ts1_mem _ _)
    have h2 := ts2_mem q b
    generalize ts2 q b = r at *
    have e : ts1 r (b / 512) = r := by unfold ts1; rw [if_pos h1]
    rw [e]
    unfold ts2
    rw [if_pos h2]
theorem tsStep_len (ts : List (Nat × Nat)) (big : Bool) (b : Nat) : ts.length ≤ (tsStep ts big b).length ∧ (tsStep ts big b).length ≤ ts.length + 2 := by
  have h1 : ts.length ≤ (ts1 ts (b / 512)).length ∧ (ts1 ts (b / 512)).length ≤ ts.length + 1 := by
    unfold ts1; split <;> simp
  have h2 : ∀ q : List (Nat × Nat), q.length ≤ (ts2 q b).length ∧ (ts2 q b).length ≤ q.length + 1 := fun q => by
    unfold ts2; split <;> simp
  rw [tsStep_eq]
  split
  · omega
  · have := h2 (ts1 ts (b / 512))
    omega
theorem tsU_len : ∀ (us : List Un) (ts : List (Nat × Nat)), ts.length ≤ (tsU ts us).length
  | [], _ => Nat.le_refl _
  | u :: us, ts => Nat.le_trans (tsStep_len ts u.big (u.v / 2097152)).1 (tsU_len us _)
theorem chF_len (ts : List (Nat × Nat)) (big : Bool) (b0 j : Nat) : ∀ d, (chF ts big b0 j).length ≤ (chF ts big b0 (j + d)).length
  | 0 => Nat.le_refl _
  | d + 1 => Nat.le_trans (chF_len ts big b0 j d) (tsStep_len _ _ _).1
theorem row_chunks {x : L6} (hx : aloneF x = 0) (ts : List (Nat × Nat)) : ∀ i, i < cntU x → tsU ts (unitsN x (i + 1)) = chF ts x.big (x.v / 2097152) ((x.v + i * unitF x) / 2097152 - x.v / 2097152 + 1)
  | 0, _ => by
    have e : x.v + 0 * unitF x = x.v := by rw [Nat.zero_mul]; rfl
    show tsStep ts x.big ((x.v + 0 * unitF x) / 2097152) = _
    rw [e, Nat.sub_self]
    rfl
  | i + 1, hi => by
    have ih := row_chunks hx ts i (by omega)
    obtain ⟨h1, h2, h3, h4, h5, h6⟩ := aloneF_zero hx
    rw [unitsN_succ, tsU_app, ih]
    show tsStep (chF ts x.big (x.v / 2097152) _) x.big ((x.v + (i + 1) * unitF x) / 2097152) = _
    have e : x.v + (i + 1) * unitF x = x.v + i * unitF x + unitF x := by rw [Nat.add_mul]; omega
    have hge : x.v ≤ x.v + i * unitF x := Nat.le_add_right _ _
    rw [e]
    have hl : unitF x = 2097152 ∨ unitF x = 4096 := by rcases unitF_cases x with ⟨_, e⟩ | ⟨_, e⟩ <;> omega
    generalize x.v + i * unitF x = E at *
    generalize hU : unitF x = U at *
    have hd : x.v / 2097152 ≤ E / 2097152 := Nat.div_le_div_right hge
    by_cases hsame : (E + U) / 2097152 = E / 2097152
    · rw [hsame]
      show tsStep (tsStep _ _ (x.v / 2097152 + (E / 2097152 - x.v / 2097152))) _ _ = chF _ _ _ _
      rw [show x.v / 2097152 + (E / 2097152 - x.v / 2097152) = E / 2097152 by omega, tsStep_twice]
      show _ = tsStep _ _ (x.v / 2097152 + (E / 2097152 - x.v / 2097152))
      rw [show x.v / 2097152 + (E / 2097152 - x.v / 2097152) = E / 2097152 by omega]
    · have hn : (E + U) / 2097152 = E / 2097152 + 1 := by
        rcases hl with e | e <;> rw [e] at hsame ⊢ <;> omega
      rw [hn, show E / 2097152 + 1 - x.v / 2097152 + 1 = (E / 2097152 - x.v / 2097152 + 1) + 1 by omega]
      show _ = tsStep (chF _ _ _ (E / 2097152 - x.v / 2097152 + 1)) _ (x.v / 2097152 + (E / 2097152 - x.v / 2097152 + 1))
      rw [show x.v / 2097152 + (E / 2097152 - x.v / 2097152 + 1) = E / 2097152 + 1 by omega]
theorem row_tabs {x : L6} (hx : aloneF x = 0) (ts : List (Nat × Nat)) : tsU ts (unitsL x) = chF ts x.big (x.v / 2097152) ((x.v + x.n.toNat * 4096 - 1) / 2097152 + 1 - x.v / 2097152) := by
  obtain ⟨h1, h2, h3, h4, h5, h6⟩ := aloneF_zero hx
  obtain ⟨hm, hc⟩ := cntU_mul hx
  have h := row_chunks hx ts (cntU x - 1) (by omega)
  rw [show cntU x - 1 + 1 = cntU x by omega] at h
  have e : (cntU x - 1) * unitF x + unitF x = x.n.toNat * 4096 := by
    rw [← hm, Nat.sub_mul, Nat.one_mul]
    have : unitF x ≤ cntU x * unitF x := Nat.le_mul_of_pos_left _ hc
    omega
  have hl : unitF x = 2097152 ∨ unitF x = 4096 := by rcases unitF_cases x with ⟨_, e⟩ | ⟨_, e⟩ <;> omega
  have hmod : (x.v + (cntU x - 1) * unitF x) % unitF x = 0 := by rw [Nat.add_mul_mod_self_right]; exact h2
  have hge : x.v ≤ x.v + (cntU x - 1) * unitF x := Nat.le_add_right _ _
  have hE : x.v + (cntU x - 1) * unitF x + unitF x = x.v + x.n.toNat * 4096 := by omega
  show tsU ts (unitsN x (cntU x)) = _
  rw [h]
  congr 1
  generalize x.v + (cntU x - 1) * unitF x = E at *
  rw [← hE]
  rcases hl with hu | hu <;> rw [hu] at hmod hE ⊢ <;> omega
end Go.Proofs.Ytgjamnhepbblhaa
/- Pages: the document's tables in memory. Own work. -/
namespace Go.Proofs.Ytgjamnhepbblhaa
open Go.RowKit Wk
set_option linter.unusedVariables false
set_option maxRecDepth 20000
/-- where a table begins -/
def vq (y : Nat × Nat) : Nat := if y.1 = 1 then y.2 * 1073741824 else if y.1 = 2 then y.2 * 2097152 else 0
/-- a new one -/
def qrow (lv v : Int) : Array Value := #[.int .i64 lv, .int .u64 v] ++ Array.replicate 512 (.int .u64 0)
set_option maxRecDepth 100000 in
theorem q_build (lv v : Int) (W : World) : (Instr.build 68 #[(0, .int .i64 lv), (1, .int .u64 v)]).run Try.prog W = .ok (.agg (qrow lv v)) W := run_build W _ _ _ (by kernel_rfl)
set_option maxRecDepth 100000 in
theorem q_build0 (lv : Int) (W : World) : (Instr.build 68 #[(0, .int .i64 lv)]).run Try.prog W = .ok (.agg (qrow lv 0)) W := run_build W _ _ _ (by kernel_rfl)
theorem info_q : (Try.prog.info? 68).map (fun i => (i.zero, i.size, i.bytes)) = some (some (.agg (qrow 0 0)), 514, 4112) := by kernel_rfl
theorem qrow_size (lv v : Int) : (qrow lv v).size = 514 := by simp [qrow]
theorem qrow_get (lv v : Int) {r : Nat} (hr : r < 514) : (qrow lv v)[r]? = some (if r = 0 then .int .i64 lv else if r = 1 then .int .u64 v else .int .u64 0) := by
  unfold qrow
  by_cases h0 : r = 0
  · subst h0; simp
  · by_cases h1 : r = 1
    · subst h1; simp
    · rw [if_neg h0, if_neg h1, Array.getElem?_append_right (show (#[Value.int .i64 lv, .int .u64 v] : Array Value).size ≤ r by show 2 ≤ r; omega), Array.getElem?_replicate, if_pos (show r - (#[Value.int .i64 lv, .int .u64 v] : Array Value).size < 512 by show r - 2 < 512; omega)]
theorem fill_one {Q Z : Array Value} {n : Nat} (hn : 0 < n) (hQ : Q.size = n) (hZ : Z.size = n) : Instr.fill (fun i => some (i * n, n)) Z [(0, .agg Q)] = some Q := by
  have h := Go.Great.fill_whole hn [.agg Q] Z (fun u hu => by rw [List.mem_singleton.1 hu]; exact hQ) (by simp [hZ])
  have e : ([Value.agg Q].flatMap fun u => u.cells.toList).toArray = Q := by
    show (Q.toList ++ []).toArray = _
    simp
  rw [e] at h
  exact h
theorem q_slice (lv v : Int) (W : World) : (Instr.buildSlice 65 1 #[(0, .agg (qrow lv v))]).run Try.prog W = .ok (.slice (some ⟨W.heap.size, 0, none⟩) 1 1) (W.alloc (.cells (qrow lv v) 68)) := by
  obtain ⟨i, hi, hz0, hz1, hz2⟩ := info_parts info_q
  refine run_buildSlice W _ 68 1 _ _ i _ Try.underlying65 hi hz0 (by rw [hz1]; decide) (by rw [hz1]; decide) ?_
  rw [hz1]
  exact fill_one (by decide) (qrow_size lv v) (by simp)
/-- a cell of the document's tables -/
def cq (ts : List (Nat × Nat)) (E : Nat → Nat) (i r : Nat) : Value := if r = 0 then .int .i64 ((ts.getD i (0, 0)).1 : Int) else if r = 1 then .int .u64 (vq (ts.getD i (0, 0)) : Int) else .int .u64 (E (i * 512 + (r - 2)) : Int)
def cellsQ (ts : List (Nat × Nat)) (E : Nat → Nat) : List Value := (List.range (ts.length * 514)).map fun q => cq ts E (q / 514) (q % 514)
theorem cellsQ_length (ts : List (Nat × Nat)) (E : Nat → Nat) : (cellsQ ts E).length = ts.length * 514 := by simp [cellsQ]
theorem cellsQ_get (ts : List (Nat × Nat)) (E : Nat → Nat) {i r : Nat} (hi : i < ts.length) (hr : r < 514) : (cellsQ ts E)[i * 514 + r]? = some (cq ts E i r) := by
  have h1 : i * 514 + r < ts.length * 514 := by omega
  have h2 : (i * 514 + r) / 514 = i := by omega
  have h3 : (i * 514 + r) % 514 = r := by omega
  simp only [cellsQ, List.getElem?_map, List.getElem?_range h1, Option.map_some, h2, h3]
theorem cellsQ_snoc (ts : List (Nat × Nat)) (y : Nat × Nat) : cellsQ (ts ++ [y]) (fun _ => 0) = cellsQ ts (fun _ => 0) ++ (qrow (y.1 : Int) (vq y : Int)).toList := by
  have hq : ∀ r, (qrow (y.1 : Int) (vq y : Int)).toList[r]? = (qrow (y.1 : Int) (vq y : Int))[r]? := fun r => Array.getElem?_toList
  apply List.ext_getElem?
  intro q
  by_cases h1 : q < ts.length * 514
  · rw [List.getElem?_append_left (by rw [cellsQ_length]; exact h1)]
    have e : q = q / 514 * 514 + q % 514 := by omega
    have hlt : q / 514 < ts.length := by omega
    rw [e, cellsQ_get _ _ (by simp; omega) (Nat.mod_lt _ (by decide)), cellsQ_get _ _ hlt (Nat.mod_lt _ (by decide))]
    unfold cq
    have hd : (ts ++ [y]).getD (q / 514) (0, 0) = ts.getD (q / 514) (0, 0) := by simp only [List.getD, List.getElem?_append_left hlt]
    rw [hd]
  · rw [List.getElem?_append_right (by rw [cellsQ_length]; omega), cellsQ_length, hq]
    by_cases h2 : q < (ts.length + 1) * 514
    · have e : q = ts.length * 514 + (q - ts.length * 514) := by omega
      have hr : q - ts.length * 514 < 514 := by omega
      rw [qrow_get _ _ hr]
      generalize q - ts.length * 514 = r at *
      subst e
      rw [cellsQ_get _ _ (by simp) hr]
      unfold cq
      simp
    · rw [List.getElem?_eq_none (by rw [cellsQ_length]; simp; omega), Array.getElem?_eq_none (by rw [qrow_size]; omega)]
theorem cellsQ_set (ts : List (Nat × Nat)) (E : Nat → Nat) {i j : Nat} (hi : i < ts.length) (hj : j < 512) (x : Nat) : (cellsQ ts E).set (i * 514 + (j + 2)) (.int .u64 (x : Int)) = cellsQ ts (putM E (i * 512 + j) x) := by
  apply List.ext_getElem?
  intro q
  rw [List.getElem?_set]
  by_cases h1 : q < ts.length * 514
  · have e : q = q / 514 * 514 + q % 514 := by omega
    have hlt : q / 514 < ts.length := by omega
    have hm := Nat.mod_lt q (show 514 > 0 by decide)
    by_cases h2 : i * 514 + (j + 2) = q
    · rw [if_pos h2, if_pos (by rw [cellsQ_length]; omega), ← h2, cellsQ_get _ _ hi (by omega)]
      unfold cq
      rw [if_neg (by omega), if_neg (by omega), show j + 2 - 2 = j by omega, putM_at]
    · rw [if_neg h2, e, cellsQ_get _ _ hlt hm, cellsQ_get _ _ hlt hm]
      unfold cq
      by_cases r0 : q % 514 = 0
      · rw [if_pos r0, if_pos r0]
      · by_cases r1 : q % 514 = 1
        · rw [if_neg r0, if_neg r0, if_pos r1, if_pos r1]
        · rw [if_neg r0, if_neg r0, if_neg r1, if_neg r1, putM_ne _ (by omega)]
  · rw [if_neg (by omega), List.getElem?_eq_none (by rw [cellsQ_length]; omega), List.getElem?_eq_none (by rw [cellsQ_length]; omega)]
def OwnQ (w : World) (base : Nat) (v : Value) (ts : List (Nat × Nat)) (E : Nat → Nat) : Prop := w.ownsRow base 68 514 v ts.length (cellsQ ts E)
theorem OwnQ.lt {w : World} {base : Nat} {v : Value} {ts : List (Nat × Nat)} {E : Nat → Nat} (h : OwnQ w base v ts E) : ∀ k, v.ownBlock = some k → base ≤ k ∧ k < w.heap.size := World.ownsRow.lt h
theorem OwnQ.keeps {S : Nat → Prop} {w w' : World} {base : Nat} {v : Value} {ts : List (Nat × Nat)} {E : Nat → Nat} (h : OwnQ w base v ts E) (hk : Keeps S w w') (hn : ∀ k, v.ownBlock = some k → ¬ S k) : OwnQ w' base v ts E := by
  refine ⟨h.1, ?_⟩
  rcases h.2 with hv | ⟨g, cap, cur, rfl, hb, hgg, rest⟩
  · exact .inl hv
  · refine .inr ⟨g, cap, cur, rfl, hb, ?_, rest⟩
    rw [hk.block g (Array.getElem?_eq_some_iff.1 hgg).1 (hn g rfl)]
    exact hgg
theorem OwnQ.below {w w' : World} {base : Nat} {v : Value} {ts : List (Nat × Nat)} {E : Nat → Nat} (h : OwnQ w base v ts E) (hb : Below w.heap.size w w') : OwnQ w' base v ts E := h.keeps (Keeps.of_below (S := fun _ => False) hb) (fun _ _ e => e)
/-- a list that is not empty -/
theorem OwnQ.form {w : World} {base : Nat} {v : Value} {ts : List (Nat × Nat)} {E : Nat → Nat} (h : OwnQ w base v ts E) (hp : 0 < ts.length) : ∃ g cap, v = .slice (some ⟨g, 0, none⟩) ts.length cap ∧ ts.length ≤ cap := by
  rcases h.2 with ⟨rfl, h0⟩ | ⟨g, cap, cur, rfl, hb, hg, h1, h2, hs, ht⟩
  · omega
  · exact ⟨g, cap, rfl, h1⟩
theorem OwnQ.cell {w : World} {base g cap : Nat} {ts : List (Nat × Nat)} {E : Nat → Nat} (h : OwnQ w base (.slice (some ⟨g, 0, none⟩) ts.length cap) ts E) {i r : Nat} (hi : i < ts.length) (hr : r < 514) : w.cell? ⟨g, i * 514 + r, none⟩ = some (cq ts E i r) := by
  rw [World.ownsRow.cellAt h (i * 514 + r) (by omega)]
  exact cellsQ_get ts E hi hr
theorem OwnQ.free {w : World} {base g n cap : Nat} {ts : List (Nat × Nat)} {E : Nat → Nat} (h : OwnQ w base (.slice (some ⟨g, 0, none⟩) n cap) ts E) (i : Nat) : w.frozen? ⟨g, i, none⟩ = false := by
  rcases h.2 with ⟨hv, h0⟩ | ⟨g', cap', cur, hv, hb, hg, h1, h2, hs, ht⟩
  · cases hv
  · cases hv
    simp [World.frozen?, hg]
theorem OwnQ.set {w : World} {base g cap : Nat} {ts : List (Nat × Nat)} {E : Nat → Nat} (h : OwnQ w base (.slice (some ⟨g, 0, none⟩) ts.length cap) ts E) {i j : Nat} (hi : i < ts.length) (hj : j < 512) (x : Nat) : OwnQ (w.setCell ⟨g, i * 514 + (j + 2), none⟩ (.int .u64 (x : Int))) base (.slice (some ⟨g, 0, none⟩) ts.length cap) ts (putM E (i * 512 + j) x) := by
  have h3 := (World.ownsRow.stored h (i * 514 + (j + 2)) (.int .u64 (x : Int))).1
  rw [cellsQ_set ts E hi hj] at h3
  exact h3
theorem OwnQ.one (w : World) : OwnQ (w.alloc (.cells (qrow 0 0) 68)) w.heap.size (.slice (some ⟨w.heap.size, 0, none⟩) 1 1) [(0, 0)] (fun _ => 0) := by
  have e : cellsQ [(0, 0)] (fun _ => 0) = (qrow 0 0).toList := by
    have h := cellsQ_snoc [] (0, 0)
    have e0 : cellsQ [] (fun _ => 0) = [] := by simp [cellsQ]
    have e1 : ((vq (0, 0) : Nat) : Int) = 0 := rfl
    have e2 : (((0, 0) : Nat × Nat).1 : Int) = 0 := rfl
    rw [e0, List.nil_append, List.nil_append, e1, e2] at h
    exact h
  unfold OwnQ
  rw [e]
  refine ⟨by rw [Array.length_toList, qrow_size]; rfl, .inr ⟨w.heap.size, 1, qrow 0 0, rfl, Nat.le_refl _, heap_alloc_new w _, Nat.le_refl _, by unfold maxLen; decide, by rw [qrow_size], ?_⟩⟩
  rw [List.take_of_length_le (by simp [qrow_size])]
end Go.Proofs.Ytgjamnhepbblhaa
