import Derived.Test.YtlplbbnicfeoaaaGreatPq24
import Derived.Test.YtlplbbnicfeoaaaGreatPq09
import Derived.Test.YtlplbbnicfeoaaaGreatPq25
import Derived.Test.YtlplbbnicfeoaaaGreatPq29
/- Pages: what Leaves tells of the tables: the rows' units, one by one. Plain mathematics. Own work. -/
namespace Go.Proofs.YtlplbbnicfeoaaaGreat
open Go.RowKit Go.Maps Go.Proofs.YtlplbbnicfeoaaaGreat.Sp Wk Lv
set_option linter.unusedVariables false
set_option maxRecDepth 20000
/-- Leaves' machine that counts its looks, and goes on as long as no refusal is told -/
def lkQ (f : Nat → Nat → Ent × Int) (s : Nat × List Slt) (fr i lev : Nat) : (Ent × Int) × (Nat × List Slt) := (f (fr + 8 * i) lev, (s.1 + 1, s.2))
def ydQ (s : Nat × List Slt) (x : Slt) : Nat × List Slt := (s.1, s.2 ++ [x])
def ctQ (_ : Nat × List Slt) (x : Slt) : Bool := decide (x.2.2.2 = 0)
def sltU (u : Un) : Slt := (u.v, if u.big = true then 1 else 2, (u.p, false, u.big, u.wr, u.ex), 0)
/-- the units ahead of an address -/
def Ub (us : List Un) (a : Nat) : List Un := us.filter fun u => decide (u.v < a)
theorem len_pos (u : Un) : 0 < u.len := by unfold Un.len; split <;> omega
theorem ub_one {us : List Un} (hs : us.Pairwise (fun x y => x.v + x.len ≤ y.v)) {u : Un} (hu : u ∈ us) {a : Nat} (ha : u.v + u.len = a) : Ub us a = Ub us u.v ++ [u] := by
  induction us with
  | nil => cases hu
  | cons h t ih =>
    rw [List.pairwise_cons] at hs
    have hp := len_pos u
    rcases List.mem_cons.1 hu with e | e
    · subst e
      have e1 : t.filter (fun x => decide (x.v < a)) = [] := List.filter_eq_nil_iff.2 (fun x hx => by have := hs.1 x hx; simp; omega)
      have e2 : t.filter (fun x => decide (x.v < u.v)) = [] := List.filter_eq_nil_iff.2 (fun x hx => by have := hs.1 x hx; simp; omega)
      unfold Ub
      rw [List.filter_cons_of_pos (by simp; omega), List.filter_cons_of_neg (by simp), e1, e2]
      rfl
    · have h1 := hs.1 u e
      have h2 := len_pos h
      have := ih hs.2 e
      unfold Ub at this ⊢
      rw [List.filter_cons_of_pos (by simp; omega), List.filter_cons_of_pos (by simp; omega), this]
      rfl
theorem ub_none {us : List Un} {a b : Nat} (hab : a ≤ b) (h : ∀ u ∈ us, ¬ (a ≤ u.v ∧ u.v < b)) : Ub us b = Ub us a := by
  unfold Ub
  refine List.filter_congr (fun u hu => ?_)
  have := h u hu
  rw [decide_eq_decide]
  omega
theorem ub_all {us : List Un} {a : Nat} (h : ∀ u ∈ us, u.v < a) : Ub us a = us := List.filter_eq_self.2 (fun u hu => by simp; exact h u hu)
theorem units_pair : ∀ {xs : List L6} {t : Nat}, refuF t xs = 0 → (units xs).Pairwise (fun x y => x.v + x.len ≤ y.v) ∧ ∀ u ∈ units xs, t ≤ u.v
  | [], _, _ => ⟨List.Pairwise.nil, fun u h => by cases h⟩
  | x :: xs, t, hr => by
    obtain ⟨h1, h2, h3⟩ := refuF_zero hr
    obtain ⟨p1, p2⟩ := units_pair h3
    have e : units (x :: xs) = unitsL x ++ units xs := by unfold units; rw [List.flatMap_cons]
    rw [e]
    have hL : (unitsL x).Pairwise (fun x y => x.v + x.len ≤ y.v) := by
      unfold unitsL unitsN
      rw [List.pairwise_map]
      refine List.Pairwise.imp ?_ List.pairwise_lt_range
      intro i j hij
      rw [unitAt_len]
      show x.v + i * unitF x + unitF x ≤ x.v + j * unitF x
      have : (i + 1) * unitF x ≤ j * unitF x := Nat.mul_le_mul_right _ hij
      rw [Nat.add_mul, Nat.one_mul] at this
      omega
    refine ⟨List.pairwise_append.2 ⟨hL, p1, fun u hu u' hu' => ?_⟩, fun u hu => ?_⟩
    · unfold unitsL unitsN at hu
      obtain ⟨i, hi, rfl⟩ := List.mem_map.1 hu
      have := (unitAt_ok h1 (List.mem_range.1 hi)).2.2.1
      have := p2 u' hu'
      omega
    · rcases List.mem_append.1 hu with hu | hu
      · unfold unitsL unitsN at hu
        obtain ⟨i, hi, rfl⟩ := List.mem_map.1 hu
        show t ≤ x.v + i * unitF x
        omega
      · have := p2 u hu
        omega
theorem units_fit {xs : List L6} (hr : refuF 0 xs = 0) : ∀ u ∈ units xs, u.v % u.len = 0 ∧ u.p % u.len = 0 ∧ u.p < 4294967296 ∧ u.v < 549755813888 := by
  intro u hu
  obtain ⟨x, hx, i, hi, rfl⟩ := units_mem.1 hu
  have hxa := refuF_all hr x hx
  obtain ⟨a1, a2, a3, a4⟩ := unitAt_ok hxa hi
  obtain ⟨z1, z2, z3, z4, z5, z6⟩ := aloneF_zero hxa
  have hp := len_pos (unitAt x i)
  have z4 : x.v + x.n.toNat * 4096 ≤ 549755813888 := z4
  have z5 : x.p + x.n.toNat * 4096 ≤ 4294967296 := z5
  exact ⟨a1, a2, by omega, by omega⟩
/-- where Leaves stands: what is told are the units ahead of an address -/
structure Sd (us : List Un) (L0 T a : Nat) (t : St (Nat × List Slt)) : Prop where
  told : t.s.2 = (Ub us a).map sltU
  left : t.left + T + (Ub us a).length = L0
  go : t.go = true
theorem Sd.next {us : List Un} {L0 T a b : Nat} {t : St (Nat × List Slt)} (h : Sd us L0 T a t) (e : Ub us b = Ub us a) (k : Nat) : Sd us L0 T b { t with s := (k, t.s.2) } := ⟨by rw [e]; exact h.told, by rw [e]; exact h.left, h.go⟩
theorem Sd.leaf {us : List Un} {L0 T a b : Nat} {t : St (Nat × List Slt)} (h : Sd us L0 T a t) {u : Un} (hu : u ∈ us) (e : Ub us b = Ub us a ++ [u]) (hL : T + us.length + 1 ≤ L0) (k : Nat) : Sd us L0 T b (visitS ydQ ctQ { t with s := (k, t.s.2) } (sltU u)) := by
  have hl : (Ub us b).length ≤ us.length := List.length_filter_le _ _
  have h1 := h.left
  rw [e, List.length_append, List.length_singleton] at hl
  have e1 : visitS ydQ ctQ { t with s := (k, t.s.2) } (sltU u) = { s := (k, t.s.2 ++ [sltU u]), left := t.left - 1, go := decide (1 < t.left) } := by
    unfold visitS
    rw [if_neg (by show ¬ (false = true); decide)]
    rfl
  rw [e1]
  refine ⟨?_, ?_, ?_⟩
  · show t.s.2 ++ [sltU u] = _
    rw [e, List.map_append, h.told]
    rfl
  · show t.left - 1 + T + (Ub us b).length = L0
    rw [e, List.length_append, List.length_singleton]
    omega
  · show decide (1 < t.left) = true
    exact decide_eq_true (by omega)
theorem Sd.table {us : List Un} {L0 T a : Nat} {t : St (Nat × List Slt)} (h : Sd us L0 T a t) {x : Slt} (hx : x.2.2.1.2.1 = true) (hL : T + us.length + 2 ≤ L0) (k : Nat) : Sd us L0 (T + 1) a (visitS ydQ ctQ { t with s := (k, t.s.2) } x) := by
  have hl : (Ub us a).length ≤ us.length := List.length_filter_le _ _
  have h1 := h.left
  have e1 : visitS ydQ ctQ { t with s := (k, t.s.2) } x = { s := (k, t.s.2), left := t.left - 1, go := decide (1 < t.left) } := by
    unfold visitS
    rw [if_pos hx]
  rw [e1]
  refine ⟨h.told, ?_, ?_⟩
  · show t.left - 1 + (T + 1) + (Ub us a).length = L0
    omega
  · show decide (1 < t.left) = true
    exact decide_eq_true (by omega)
section
variable {xs : List L6} {base n : Nat} {s : Bst} {us : List Un} {f : Nat → Nat → Ent × Int} {L0 : Nat}
/-- what is known of the tables -/
structure Tb (us : List Un) (base n L0 : Nat) (s : Bst) (f : Nat → Nat → Ent × Int) : Prop where
  cl : Cl base s
  kn : Kn us s
  nx : s.nx = n
  fit : ∀ u ∈ us, u.v % u.len = 0 ∧ u.p % u.len = 0 ∧ u.p < 4294967296 ∧ u.v < 549755813888
  pw : us.Pairwise (fun x y => x.v + x.len ≤ y.v)
  at_ : ∀ k l, k < n * 512 → f (base + 8 * k) l = entB (s.M k) (l : Int)
  b4 : base % 4096 = 0
  bl : base + n * 4096 ≤ 4294967296
  few : n + us.length + 2 ≤ L0
theorem low_tab (H : Tb us base n L0 s f) {b T : Nat} (hB : s.B b = true) (hT : T ≤ n) {t : St (Nat × List Slt)} (h : Sd us L0 T (b * 2097152) t) : ∀ i, i ≤ 512 → Sd us L0 T (b * 2097152 + i * 4096) (Lv.tabN (lkQ f) ydQ ctQ deep3 (base + T2 s.A s.B b * 4096) (b * 2097152) 2 i t)
  | 0, _ => by rw [Nat.zero_mul, Nat.add_zero]; exact h
  | i + 1, hi => by
    have ih := low_tab H hB hT h i (by omega)
    have ht := H.cl.t2_lt hB
    rw [H.nx] at ht
    rw [Lv.tabN_go ih.go]
    generalize Lv.tabN (lkQ f) ydQ ctQ deep3 (base + T2 s.A s.B b * 4096) (b * 2097152) 2 i t = q at ih ⊢
    have hv : f (base + T2 s.A s.B b * 4096 + 8 * i) 2 = entB (s.L2 (b * 512 + i)) 2 := by
      rw [show base + T2 s.A s.B b * 4096 + 8 * i = base + 8 * (T2 s.A s.B b * 512 + i) by omega, H.at_ _ _ (by omega), H.cl.c2 b hB i (by omega)]
      rfl
    by_cases hz : s.L2 (b * 512 + i) = 0
    · rw [step_absent (lk := lkQ f) (by show (f _ _).2 = 41; rw [hv, hz, ent_none 2 (.inr (.inr rfl))])]
      refine ih.next (ub_none (by omega) (fun u hu hh => ?_)) _
      obtain ⟨f1, _⟩ := H.fit u hu
      cases hb : u.big with
      | true =>
        have := H.kn.nb (u.v / 2097152) (by rw [H.kn.b1 u hu hb]; exact val_pos u)
        rw [show u.v / 2097152 = b by omega, hB] at this
        cases this
      | false =>
        have := H.kn.s1 u hu hb
        rw [show u.v / 4096 = b * 512 + i by omega, hz] at this
        exact val_pos u this.symm
    · obtain ⟨u, hu, hb, hc, hval⟩ := H.kn.s2 _ hz
      obtain ⟨f1, f2, f3, _⟩ := H.fit u hu
      have hlen : u.len = 4096 := by unfold Un.len; rw [hb]; rfl
      rw [hlen] at f1 f2
      have hvv : u.v = b * 2097152 + i * 4096 := by omega
      have hen : entB (s.L2 (b * 512 + i)) 2 = ((u.p, false, false, u.wr, u.ex), 0) := by
        rw [hval]
        unfold Un.val
        rw [hb]
        exact ent_page f2 f3 u.wr u.ex
      have hf : f (base + T2 s.A s.B b * 4096 + 8 * i) 2 = ((u.p, false, false, u.wr, u.ex), 0) := hv.trans hen
      rw [step_aft (lk := lkQ f) (by show (f _ _).2 ≠ 41; rw [hf]; exact (by decide : (0 : Int) ≠ 41))]
      have hsl : slotS (b * 2097152) 2 i (lkQ f q.s (base + T2 s.A s.B b * 4096) i 2).1 = sltU u := by
        show (b * 2097152 + i * rch 2, 2, (f (base + T2 s.A s.B b * 4096 + 8 * i) 2).1, (f (base + T2 s.A s.B b * 4096 + 8 * i) 2).2) = sltU u
        rw [hf]
        unfold sltU
        rw [hb, hvv]
        rfl
      rw [hsl]
      unfold aft
      rw [if_neg (by rw [Bool.and_eq_true]; rintro ⟨_, e⟩; exact absurd e (by show ¬ (false = true); decide))]
      have := ih.leaf hu (b := u.v + u.len) (by rw [← hvv]; exact ub_one H.pw hu rfl) (by have := H.few; omega) (q.s.1 + 1)
      rw [show b * 2097152 + (i + 1) * 4096 = u.v + u.len by rw [hlen, hvv]; omega]
      exact this
theorem mid_tab (H : Tb us base n L0 s f) {a : Nat} (hA : s.A a = true) {t : St (Nat × List Slt)} (h : Sd us L0 (H2 s.A s.B a 0) (a * 1073741824) t) : ∀ j, j ≤ 512 → Sd us L0 (H2 s.A s.B a j) (a * 1073741824 + j * 2097152) (Lv.tabN (lkQ f) ydQ ctQ (deep2 (lkQ f) ydQ ctQ) (base + T1 s.A s.B a * 4096) (a * 1073741824) 1 j t)
  | 0, _ => by rw [Nat.zero_mul, Nat.add_zero]; exact h
  | j + 1, hj => by
    have ih := mid_tab H hA h j (by omega)
    have ht := H.cl.t1_lt hA
    rw [H.nx] at ht
    rw [Lv.tabN_go ih.go]
    generalize Lv.tabN (lkQ f) ydQ ctQ (deep2 (lkQ f) ydQ ctQ) (base + T1 s.A s.B a * 4096) (a * 1073741824) 1 j t = q at ih ⊢
    have hb2 := h2_bound H.cl a j
    have hb3 := h2_bound H.cl a (j + 1)
    rw [H.nx] at hb2 hb3
    have hM := H.cl.c1 a hA j (by omega)
    have hv : f (base + T1 s.A s.B a * 4096 + 8 * j) 1 = entB (s.M (T1 s.A s.B a * 512 + j)) 1 := by
      rw [show base + T1 s.A s.B a * 4096 + 8 * j = base + 8 * (T1 s.A s.B a * 512 + j) by omega, H.at_ _ _ (by omega)]
      rfl
    rw [hM] at hv
    cases hB : s.B (a * 512 + j) with
    | true =>
      rw [hB, cond_true] at hv
      have ht2 := H.cl.t2_lt hB
      rw [H.nx] at ht2
      have hb4 := H.b4
      have hbl := H.bl
      rw [ent_tab (l := 1) (by omega) (by omega) (.inr rfl)] at hv
      rw [step_aft (lk := lkQ f) (by show (f _ _).2 ≠ 41; rw [hv]; exact (by decide : (0 : Int) ≠ 41))]
      have hsl : slotS (a * 1073741824) 1 j (lkQ f q.s (base + T1 s.A s.B a * 4096) j 1).1 = ((a * 512 + j) * 2097152, 1, (base + T2 s.A s.B (a * 512 + j) * 4096, true, false, false, false), 0) := by
        show (a * 1073741824 + j * rch 1, 1, (f (base + T1 s.A s.B a * 4096 + 8 * j) 1).1, (f (base + T1 s.A s.B a * 4096 + 8 * j) 1).2) = _
        rw [hv, show a * 1073741824 + j * rch 1 = (a * 512 + j) * 2097152 by show a * 1073741824 + j * 2097152 = _; omega]
      rw [hsl]
      have hy := h2_yes (A := s.A) hB
      have hst := ih.table (x := ((a * 512 + j) * 2097152, 1, (base + T2 s.A s.B (a * 512 + j) * 4096, true, false, false, false), 0)) rfl (by have := H.few; omega) (q.s.1 + 1)
      unfold aft
      rw [if_pos (by rw [Bool.and_eq_true]; exact ⟨hst.go, rfl⟩)]
      rw [show a * 1073741824 + j * 2097152 = (a * 512 + j) * 2097152 by omega, ← hy] at hst
      have := low_tab H hB hb3 hst 512 (Nat.le_refl _)
      rw [show a * 1073741824 + (j + 1) * 2097152 = (a * 512 + j) * 2097152 + 512 * 4096 by omega]
      exact this
    | false =>
      rw [hB, cond_false] at hv
      rw [h2_no hB]
      by_cases hz : s.L1 (a * 512 + j) = 0
      · rw [step_absent (lk := lkQ f) (by show (f _ _).2 = 41; rw [hv, hz, ent_none 1 (.inr (.inl rfl))])]
        refine ih.next (ub_none (by omega) (fun u hu hh => ?_)) _
        obtain ⟨f1, _⟩ := H.fit u hu
        have hq : u.v / 2097152 = a * 512 + j := by omega
        cases hb : u.big with
        | true =>
          have := H.kn.b1 u hu hb
          rw [hq, hz] at this
          exact val_pos u this.symm
        | false =>
          have := (H.kn.has H.cl u hu).2 hb
          rw [hq, hB] at this
          cases this
      · obtain ⟨u, hu, hb, hc, hval⟩ := H.kn.b2 _ hz
        obtain ⟨f1, f2, f3, _⟩ := H.fit u hu
        have hlen : u.len = 2097152 := by unfold Un.len; rw [hb]; rfl
        rw [hlen] at f1 f2
        have hvv : u.v = a * 1073741824 + j * 2097152 := by omega
        have hen : entB (s.L1 (a * 512 + j)) 1 = ((u.p, false, true, u.wr, u.ex), 0) := by
          rw [hval]
          unfold Un.val
          rw [hb]
          exact ent_big f2 f3 u.wr u.ex
        rw [hen] at hv
        rw [step_aft (lk := lkQ f) (by show (f _ _).2 ≠ 41; rw [hv]; exact (by decide : (0 : Int) ≠ 41))]
        have hsl : slotS (a * 1073741824) 1 j (lkQ f q.s (base + T1 s.A s.B a * 4096) j 1).1 = sltU u := by
          show (a * 1073741824 + j * rch 1, 1, (f (base + T1 s.A s.B a * 4096 + 8 * j) 1).1, (f (base + T1 s.A s.B a * 4096 + 8 * j) 1).2) = sltU u
          rw [hv]
          unfold sltU
          rw [hb, hvv]
          rfl
        rw [hsl]
        unfold aft
        rw [if_neg (by rw [Bool.and_eq_true]; rintro ⟨_, e⟩; exact absurd e (by show ¬ (false = true); decide))]
        have := ih.leaf hu (b := u.v + u.len) (by rw [← hvv]; exact ub_one H.pw hu rfl) (by have := H.few; omega) (q.s.1 + 1)
        rw [show a * 1073741824 + (j + 1) * 2097152 = u.v + u.len by rw [hlen, hvv]; omega]
        exact this
theorem top_tab (H : Tb us base n L0 s f) {t : St (Nat × List Slt)} (h : Sd us L0 (T1 s.A s.B 0) 0 t) : ∀ a, a ≤ 512 → Sd us L0 (T1 s.A s.B a) (a * 1073741824) (Lv.tabN (lkQ f) ydQ ctQ (deep1 (lkQ f) ydQ ctQ) base 0 0 a t)
  | 0, _ => by rw [Nat.zero_mul]; exact h
  | a + 1, ha => by
    have ih := top_tab H h a (by omega)
    rw [Lv.tabN_go ih.go]
    generalize Lv.tabN (lkQ f) ydQ ctQ (deep1 (lkQ f) ydQ ctQ) base 0 0 a t = q at ih ⊢
    have hn1 : 1 ≤ n := by
      have := H.cl.nx
      rw [H.nx] at this
      omega
    have hM := H.cl.c0 a (by omega)
    have hv : f (base + 8 * a) 0 = entB (s.M a) 0 := H.at_ _ _ (by omega)
    rw [hM] at hv
    cases hA : s.A a with
    | true =>
      rw [hA, cond_true] at hv
      have ht := H.cl.t1_lt hA
      rw [H.nx] at ht
      have hb4 := H.b4
      have hbl := H.bl
      rw [ent_tab (l := 0) (by omega) (by omega) (.inl rfl)] at hv
      rw [step_aft (lk := lkQ f) (by show (f _ _).2 ≠ 41; rw [hv]; exact (by decide : (0 : Int) ≠ 41))]
      have hsl : slotS 0 0 a (lkQ f q.s base a 0).1 = (a * 1073741824, 0, (base + T1 s.A s.B a * 4096, true, false, false, false), 0) := by
        show (0 + a * rch 0, 0, (f (base + 8 * a) 0).1, (f (base + 8 * a) 0).2) = _
        rw [hv, show 0 + a * rch 0 = a * 1073741824 by show 0 + a * 1073741824 = _; omega]
      rw [hsl]
      have hz := h2_zero (B := s.B) hA
      have hst := ih.table (x := (a * 1073741824, 0, (base + T1 s.A s.B a * 4096, true, false, false, false), 0)) rfl (by have := H.few; omega) (q.s.1 + 1)
      unfold aft
      rw [if_pos (by rw [Bool.and_eq_true]; exact ⟨hst.go, rfl⟩)]
      rw [← hz] at hst
      have := mid_tab H hA hst 512 (Nat.le_refl _)
      rw [h2_end] at this
      rw [show (a + 1) * 1073741824 = a * 1073741824 + 512 * 2097152 by omega]
      exact this
    | false =>
      rw [hA, cond_false] at hv
      rw [step_absent (lk := lkQ f) (by show (f _ _).2 = 41; rw [hv, ent_none 0 (.inl rfl)])]
      rw [t1_no H.cl hA]
      refine ih.next (ub_none (by omega) (fun u hu hh => ?_)) _
      have := (H.kn.has H.cl u hu).1
      rw [show u.v / 1073741824 = a by omega, hA] at this
      cases this
theorem all_told (H : Tb us base n L0 s f) (k : Nat) : (allS (lkQ f) ydQ ctQ base { s := (k, []), left := L0 - 1, go := true }).go = true ∧ (allS (lkQ f) ydQ ctQ base { s := (k, []), left := L0 - 1, go := true }).s.2 = us.map sltU := by
  have e0 : Ub us 0 = [] := List.filter_eq_nil_iff.2 (fun u _ => by simp)
  have h0 : Sd us L0 (T1 s.A s.B 0) 0 { s := (k, []), left := L0 - 1, go := true } := by
    refine ⟨by rw [e0]; rfl, ?_, rfl⟩
    rw [e0]
    show L0 - 1 + T1 s.A s.B 0 + 0 = L0
    have : T1 s.A s.B 0 = 1 := by simp [T1, cntB]
    have := H.few
    omega
  have h := top_tab H h0 512 (Nat.le_refl _)
  refine ⟨h.go, ?_⟩
  have := h.told
  rw [ub_all (fun u hu => by have := (H.fit u hu).2.2.2; omega)] at this
  exact this
end
end Go.Proofs.YtlplbbnicfeoaaaGreat
