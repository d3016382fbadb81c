import Derived.Test.YtgjamnhepbblhaaPk18
import Derived.Test.YtgjamnhepbblhaaPk10
import Derived.Test.YtgjamnhepbblhaaPk05
import Derived.Test.YtgjamnhepbblhaaPk16
/- Pages: Runs of any rows. Own work. -/
namespace Go.Proofs.Ytgjamnhepbblhaa
open Go.RowKit Wk
set_option linter.unusedVariables false
/-- two rows as one -/
def joinL (y x : L6) : L6 := ⟨y.v, y.p, y.n + x.n, y.big, y.wr, y.ex⟩
def goesF (y x : L6) : Bool := decide (x.v = y.v + y.n.toNat * 4096 ∧ x.p = y.p + y.n.toNat * 4096 ∧ x.big = y.big ∧ x.wr = y.wr ∧ x.ex = y.ex)
/-- the rows joined, behind those that are joined already -/
def runsF : List L6 → List L6 → List L6
  | acc, [] => acc
  | acc, x :: xs =>
    match acc.getLast? with
    | none => runsF [x] xs
    | some y => if goesF y x = true then runsF (acc.dropLast ++ [joinL y x]) xs else runsF (acc ++ [x]) xs
theorem runsF_none (x : L6) (xs : List L6) : runsF [] (x :: xs) = runsF [x] xs := rfl
theorem runsF_some (bs : List L6) (y x : L6) (xs : List L6) : runsF (bs ++ [y]) (x :: xs) = if goesF y x = true then runsF (bs ++ [joinL y x]) xs else runsF (bs ++ [y] ++ [x]) xs := by
  rw [runsF]
  simp only [List.getLast?_append, List.getLast?_singleton, List.dropLast_concat, Option.some_or]
/-- a row that may be -/
def L6.fine (x : L6) : Prop := 1 ≤ x.n ∧ x.v + x.n.toNat * 4096 ≤ 549755813888 ∧ x.p + x.n.toNat * 4096 ≤ 4294967296
set_option maxRecDepth 100000 in
theorem L6.fine.join {y x : L6} (hy : y.fine) (hx : x.fine) (hg : goesF y x = true) : (joinL y x).fine := by
  obtain ⟨y1, y2, y3⟩ := hy
  obtain ⟨x1, x2, x3⟩ := hx
  obtain ⟨g1, g2, _⟩ := of_decide_eq_true hg
  refine ⟨?_, ?_, ?_⟩
  · show 1 ≤ y.n + x.n
    omega
  · show y.v + (y.n + x.n).toNat * 4096 ≤ 549755813888
    have e : (y.n + x.n).toNat = y.n.toNat + x.n.toNat := by omega
    rw [e]
    omega
  · show y.p + (y.n + x.n).toNat * 4096 ≤ 4294967296
    have e : (y.n + x.n).toNat = y.n.toNat + x.n.toNat := by omega
    rw [e]
    omega
theorem encLs_at (bs : List L6) (y : L6) (i : Nat) (hi : i < 6) : (encLs (bs ++ [y]))[bs.length * 6 + i]? = (encL y)[i]? := by
  rw [encLs_get (bs ++ [y]) bs.length i (by simp) hi]
  simp
theorem encLs_put (bs : List L6) (y : L6) (c : Int) : (encLs (bs ++ [y])).set (bs.length * 6 + 2) (.int .i64 c) = encLs (bs ++ [⟨y.v, y.p, c, y.big, y.wr, y.ex⟩]) := by
  rw [encLs_append, encLs_append, List.set_append_right _ _ (by rw [encLs_length]; omega), encLs_length, show bs.length * 6 + 2 - bs.length * 6 = 2 by omega]
  rfl
/-- a row that is owned and not empty -/
theorem OwnL.last {w : World} {base : Nat} {v : Value} {bs : List L6} {y : L6} (h : OwnL w base v (bs ++ [y])) : ∃ g cap, v = .slice (some ⟨g, 0, none⟩) (bs.length + 1) cap ∧ bs.length + 1 ≤ cap ∧ base ≤ g ∧ g < w.heap.size ∧ (∀ i, i < 6 → w.cell? ⟨g, bs.length * 6 + i, none⟩ = (encL y)[i]?) ∧ (∀ i, w.frozen? ⟨g, i, none⟩ = false) ∧ (∀ c : Int, OwnL (w.setCell ⟨g, bs.length * 6 + 2, none⟩ (.int .i64 c)) base v (bs ++ [⟨y.v, y.p, c, y.big, y.wr, y.ex⟩])) := by
  have h' := h
  have hl : (bs ++ [y]).length = bs.length + 1 := by simp
  rcases h.2 with ⟨rfl, h0⟩ | ⟨g, cap, cur, rfl, hb, hg, h1, h2, hs, ht⟩
  · simp at h0
  · refine ⟨g, cap, by rw [hl], by rw [hl] at h1; exact h1, hb, (Array.getElem?_eq_some_iff.1 hg).1, fun i hi => ?_, fun i => ?_, fun c => ?_⟩
    · rw [World.ownsRow.cellAt h' (bs.length * 6 + i) (by rw [hl]; omega)]
      exact encLs_at bs y i hi
    · simp [World.frozen?, hg]
    · have h3 := (World.ownsRow.stored h' (bs.length * 6 + 2) (.int .i64 c)).1
      rw [encLs_put] at h3
      have e3 : (bs ++ [(⟨y.v, y.p, c, y.big, y.wr, y.ex⟩ : L6)]).length = (bs ++ [y]).length := by simp
      unfold OwnL
      rw [e3]
      exact h3
theorem goes_any {y x : L6} (hy : y.fine) (w : World) : Calls Try.prog 36 #[V6 y, V6 x] w fun e w' => e = .returned (.bool (goesF y x)) ∧ Below w.heap.size w w' := by
  obtain ⟨v, p, n, b, wr, ex⟩ := y
  obtain ⟨y1, y2, y3⟩ := hy
  simp only at y1 y2 y3
  obtain ⟨m, rfl⟩ : ∃ m : Nat, n = (m : Int) := ⟨n.toNat, by omega⟩
  have y2 : v + m * 4096 ≤ 549755813888 := y2
  have y3 : p + m * 4096 ≤ 4294967296 := y3
  have y4 : v + m * 4096 ≤ 18446744073709551615 := Nat.le_trans y2 (by decide)
  have y5 : p + m * 4096 ≤ 18446744073709551615 := Nat.le_trans y3 (by decide)
  exact goesOn_any y4 y5 w
end Go.Proofs.Ytgjamnhepbblhaa
/- Pages: what the builder makes, plainly. Own work. -/
namespace Go.Proofs.Ytgjamnhepbblhaa
open Go.RowKit Wk
set_option linter.unusedVariables false
set_option maxRecDepth 20000
/-- one leaf entry of a row -/
structure Un where
  v : Nat
  p : Nat
  big : Bool
  wr : Bool
  ex : Bool
def Un.len (u : Un) : Nat := if u.big = true then 2097152 else 4096
def Un.val (u : Un) : Nat := u.p + (1 + nbit u.wr 2 + nbit u.ex 4 + nbit u.big 8)
def unitAt (x : L6) (i : Nat) : Un := ⟨x.v + i * unitF x, x.p + i * unitF x, x.big, x.wr, x.ex⟩
def cntU (x : L6) : Nat := x.n.toNat * 4096 / unitF x
def unitsN (x : L6) (n : Nat) : List Un := (List.range n).map (unitAt x)
def unitsL (x : L6) : List Un := unitsN x (cntU x)
def units (xs : List L6) : List Un := xs.flatMap unitsL
/-- where the builder stands: tables begun; the open ones; the entries behind the last one; which tables there are; what they hold -/
structure Bst where
  nx : Nat
  a1 : Nat
  a2 : Nat
  n0 : Nat
  n1 : Nat
  A : Nat → Bool
  B : Nat → Bool
  L1 : Nat → Nat
  L2 : Nat → Nat
  M : Nat → Nat
def putB (A : Nat → Bool) (i : Nat) : Nat → Bool := fun j => if j = i then true else A j
theorem putB_at (A : Nat → Bool) (i : Nat) : putB A i i = true := if_pos rfl
theorem putB_ne (A : Nat → Bool) {i j : Nat} (h : j ≠ i) : putB A i j = A j := if_neg h
theorem putM_at (M : Nat → Nat) (i x : Nat) : putM M i x i = x := if_pos rfl
theorem putM_ne (M : Nat → Nat) {i j x : Nat} (h : j ≠ i) : putM M i x j = M j := if_neg h
def step1 (base : Nat) (s : Bst) (v : Nat) : Bst :=
  if v / 1073741824 < s.n0 then s else { s with nx := s.nx + 1, a1 := s.nx, n0 := v / 1073741824 + 1, A := putB s.A (v / 1073741824), M := putM s.M (v / 1073741824) (base + s.nx * 4096 + 1) }
def step2 (base : Nat) (s : Bst) (v : Nat) : Bst :=
  if v / 2097152 < s.n1 then s else { s with nx := s.nx + 1, a2 := s.nx, n1 := v / 2097152 + 1, B := putB s.B (v / 2097152), M := putM s.M (s.a1 * 512 + v / 2097152 % 512) (base + s.nx * 4096 + 1) }
def leafS (s : Bst) (u : Un) : Bst :=
  if u.big = true then { s with L1 := putM s.L1 (u.v / 2097152) u.val, M := putM s.M (s.a1 * 512 + u.v / 2097152 % 512) u.val } else { s with L2 := putM s.L2 (u.v / 4096) u.val, M := putM s.M (s.a2 * 512 + u.v / 4096 % 512) u.val }
def downS (base : Nat) (s : Bst) (u : Un) : Bst := if u.big = true then step1 base s u.v else step2 base (step1 base s u.v) u.v
def stepU (base : Nat) (s : Bst) (u : Un) : Bst := leafS (downS base s u) u
def bst0 : Bst := ⟨1, 0, 0, 0, 0, fun _ => false, fun _ => false, fun _ => 0, fun _ => 0, fun _ => 0⟩
def buildU (base : Nat) (s : Bst) (us : List Un) : Bst := us.foldl (stepU base) s
def Ris : Nat → List Un → Prop
  | _, [] => True
  | t, u :: us => t ≤ u.v ∧ u.v % u.len = 0 ∧ u.p % u.len = 0 ∧ u.v + u.len ≤ 549755813888 ∧ u.p + u.len ≤ 4294967296 ∧ Ris (u.v + u.len) us
/-- how many of the first n there are -/
def cntB (f : Nat → Bool) : Nat → Nat
  | 0 => 0
  | n + 1 => cntB f n + (if f n = true then 1 else 0)
theorem cntB_mono (f : Nat → Bool) {a b : Nat} (h : a ≤ b) : cntB f a ≤ cntB f b := by
  induction b with
  | zero => simp [show a = 0 by omega]
  | succ b ih =>
    by_cases e : a = b + 1
    · rw [e]; exact Nat.le_refl _
    · exact Nat.le_trans (ih (by omega)) (Nat.le_add_right _ _)
theorem cntB_lt {f : Nat → Bool} {a b : Nat} (h : a < b) (ha : f a = true) : cntB f a < cntB f b := by
  have h1 : cntB f (a + 1) = cntB f a + 1 := by simp [cntB, ha]
  have h2 := cntB_mono f (show a + 1 ≤ b from h)
  omega
theorem cntB_same {f g : Nat → Bool} {a : Nat} (h : ∀ i, i < a → f i = g i) : cntB f a = cntB g a := by
  induction a with
  | zero => rfl
  | succ a ih => simp only [cntB]; rw [ih (fun i hi => h i (by omega)), h a (by omega)]
theorem cntB_none {f : Nat → Bool} {a b : Nat} (h : a ≤ b) (hn : ∀ i, a ≤ i → i < b → f i = false) : cntB f b = cntB f a := by
  induction b with
  | zero => rw [show a = 0 by omega]
  | succ b ih =>
    by_cases e : a = b + 1
    · rw [e]
    · simp only [cntB]
      rw [ih (by omega) (fun i h1 h2 => hn i h1 (by omega)), hn b (by omega) (by omega)]
      simp
theorem cntB_put {f : Nat → Bool} {a k : Nat} (h : a ≤ k) : cntB (putB f k) a = cntB f a := cntB_same fun i hi => by simp [putB, show i ≠ k by omega]
def T1 (A B : Nat → Bool) (a : Nat) : Nat := 1 + cntB A a + cntB B (a * 512)
def T2 (A B : Nat → Bool) (b : Nat) : Nat := 1 + cntB A (b / 512 + 1) + cntB B b
/-- what there is of the tables, and where it lies -/
structure Cl (base : Nat) (s : Bst) : Prop where
  n0 : s.n0 ≤ 512
  n1 : s.n1 ≤ 262144
  hA : ∀ a, s.A a = true → a < s.n0
  hB : ∀ b, s.B b = true → b < s.n1
  lA : s.n0 ≠ 0 → s.A (s.n0 - 1) = true
  lB : s.n1 ≠ 0 → s.B (s.n1 - 1) = true
  BA : ∀ b, s.B b = true → s.A (b / 512) = true
  L1A : ∀ b, s.L1 b ≠ 0 → s.A (b / 512) = true
  L2B : ∀ c, s.L2 c ≠ 0 → s.B (c / 512) = true
  nx : s.nx = 1 + cntB s.A s.n0 + cntB s.B s.n1
  a1 : s.n0 ≠ 0 → s.a1 = T1 s.A s.B (s.n0 - 1)
  a2 : s.n1 ≠ 0 → s.a2 = T2 s.A s.B (s.n1 - 1)
  c0 : ∀ i, i < 512 → s.M i = cond (s.A i) (base + T1 s.A s.B i * 4096 + 1) 0
  c1 : ∀ a, s.A a = true → ∀ i, i < 512 → s.M (T1 s.A s.B a * 512 + i) = cond (s.B (a * 512 + i)) (base + T2 s.A s.B (a * 512 + i) * 4096 + 1) (s.L1 (a * 512 + i))
  c2 : ∀ b, s.B b = true → ∀ i, i < 512 → s.M (T2 s.A s.B b * 512 + i) = s.L2 (b * 512 + i)
  c3 : ∀ x, s.nx * 512 ≤ x → s.M x = 0
theorem cl0 (base : Nat) : Cl base bst0 where
  n0 := Nat.zero_le _
  n1 := Nat.zero_le _
  hA := fun _ h => by cases h
  hB := fun _ h => by cases h
  lA := fun h => absurd rfl h
  lB := fun h => absurd rfl h
  BA := fun _ h => by cases h
  L1A := fun _ h => absurd rfl h
  L2B := fun _ h => absurd rfl h
  nx := rfl
  a1 := fun h => absurd rfl h
  a2 := fun h => absurd rfl h
  c0 := fun _ _ => rfl
  c1 := fun _ h => by cases h
  c2 := fun _ h => by cases h
  c3 := fun _ _ => rfl
theorem Cl.t1_lt {base : Nat} {s : Bst} (h : Cl base s) {a : Nat} (ha : s.A a = true) : T1 s.A s.B a < s.nx := by
  have h1 := cntB_lt (h.hA a ha) ha
  have h2 : cntB s.B (a * 512) ≤ cntB s.B s.n1 := by
    by_cases e : a * 512 ≤ s.n1
    · exact cntB_mono _ e
    · rw [cntB_none (f := s.B) (a := s.n1) (b := a * 512) (by omega) (fun i hi _ => by
        cases hb : s.B i with
        | false => rfl
        | true => have := h.hB i hb; omega)]
      exact Nat.le_refl _
  rw [h.nx]
  unfold T1
  omega
theorem Cl.cA {base : Nat} {s : Bst} (h : Cl base s) {a : Nat} : cntB s.A a ≤ cntB s.A s.n0 := by
  by_cases e : a ≤ s.n0
  · exact cntB_mono _ e
  · rw [cntB_none (f := s.A) (a := s.n0) (b := a) (by omega) (fun i hi _ => by
      cases hb : s.A i with
      | false => rfl
      | true => have := h.hA i hb; omega)]
    exact Nat.le_refl _
theorem Cl.t2_lt {base : Nat} {s : Bst} (h : Cl base s) {b : Nat} (hb : s.B b = true) : T2 s.A s.B b < s.nx := by
  have h1 := cntB_lt (h.hB b hb) hb
  have h2 := h.cA (a := b / 512 + 1)
  rw [h.nx]
  unfold T2
  omega
theorem Cl.t11 {base : Nat} {s : Bst} (h : Cl base s) {a a' : Nat} (ha : s.A a = true) (ha' : s.A a' = true) (hne : a ≠ a') : T1 s.A s.B a ≠ T1 s.A s.B a' := by
  unfold T1
  rcases Nat.lt_or_gt_of_ne hne with e | e
  · have h1 := cntB_lt e ha
    have h2 := cntB_mono s.B (show a * 512 ≤ a' * 512 by omega)
    omega
  · have h1 := cntB_lt e ha'
    have h2 := cntB_mono s.B (show a' * 512 ≤ a * 512 by omega)
    omega
theorem Cl.t22 {base : Nat} {s : Bst} (h : Cl base s) {b b' : Nat} (hb : s.B b = true) (hb' : s.B b' = true) (hne : b ≠ b') : T2 s.A s.B b ≠ T2 s.A s.B b' := by
  unfold T2
  rcases Nat.lt_or_gt_of_ne hne with e | e
  · have h1 := cntB_lt e hb
    have h2 := cntB_mono s.A (show b / 512 + 1 ≤ b' / 512 + 1 by omega)
    omega
  · have h1 := cntB_lt e hb'
    have h2 := cntB_mono s.A (show b' / 512 + 1 ≤ b / 512 + 1 by omega)
    omega
theorem Cl.t12 {base : Nat} {s : Bst} (h : Cl base s) {a b : Nat} (ha : s.A a = true) (hb : s.B b = true) : T1 s.A s.B a ≠ T2 s.A s.B b := by
  unfold T1 T2
  by_cases e : a ≤ b / 512
  · have h1 := cntB_lt (show a < b / 512 + 1 by omega) ha
    have h2 := cntB_mono s.B (show a * 512 ≤ b by omega)
    omega
  · have h1 := cntB_lt (show b < a * 512 by omega) hb
    have h2 := cntB_mono s.A (show b / 512 + 1 ≤ a by omega)
    omega
theorem Cl.noA {base : Nat} {s : Bst} (h : Cl base s) {a : Nat} (e : s.n0 ≤ a) : s.A a = false := by
  cases hb : s.A a with
  | false => rfl
  | true => have := h.hA a hb; omega
theorem Cl.noB {base : Nat} {s : Bst} (h : Cl base s) {a : Nat} (e : s.n1 ≤ a) : s.B a = false := by
  cases hb : s.B a with
  | false => rfl
  | true => have := h.hB a hb; omega
theorem Cl.n1_le {base : Nat} {s : Bst} (h : Cl base s) : s.n1 ≤ s.n0 * 512 := by
  by_cases e : s.n1 = 0
  · omega
  · have h1 := h.hA _ (h.BA _ (h.lB e))
    omega
set_option maxHeartbeats 1000000 in
theorem Cl.step1 {base : Nat} {s : Bst} (h : Cl base s) {v : Nat} (hv : v < 549755813888) : Cl base (step1 base s v) := by
  unfold Go.Proofs.Ytgjamnhepbblhaa.step1
  by_cases hk : v / 1073741824 < s.n0
  · rw [if_pos hk]; exact h
  rw [if_neg hk]
  have hk5 : v / 1073741824 < 512 := Nat.div_lt_of_lt_mul hv
  generalize v / 1073741824 = k at *
  have hn1 := h.n1_le
  have hcA : cntB s.A k = cntB s.A s.n0 := cntB_none (by omega) (fun i h1 _ => h.noA h1)
  have hcB : cntB s.B (k * 512) = cntB s.B s.n1 := cntB_none (by omega) (fun i h1 _ => h.noB h1)
  have hnA : s.A k = false := h.noA (by omega)
  have eT1 : ∀ a, a ≤ k → T1 (putB s.A k) s.B a = T1 s.A s.B a := fun a ha => by
    unfold T1
    rw [cntB_put ha]
  have eT2 : ∀ b, s.B b = true → T2 (putB s.A k) s.B b = T2 s.A s.B b := fun b hb => by
    have h1 := h.hA _ (h.BA b hb)
    unfold T2
    rw [cntB_put (by omega)]
  have hT : T1 s.A s.B k = s.nx := by unfold T1; rw [hcA, hcB, h.nx]
  refine { n0 := by simp only; omega, n1 := h.n1, hA := ?_, hB := h.hB, lA := ?_, lB := h.lB, BA := ?_, L1A := ?_, L2B := h.L2B, nx := ?_, a1 := ?_, a2 := ?_, c0 := ?_, c1 := ?_, c2 := ?_, c3 := ?_ }
  · intro a ha
    simp only [putB] at ha ⊢
    split at ha
    · omega
    · have := h.hA a ha; omega
  · intro _
    simp [putB]
  · intro b hb
    simp only [putB]
    split
    · rfl
    · exact h.BA b hb
  · intro b hb
    simp only [putB]
    split
    · rfl
    · exact h.L1A b hb
  · simp only
    rw [show cntB (putB s.A k) (k + 1) = cntB s.A s.n0 + 1 by simp only [cntB]; rw [cntB_put (Nat.le_refl _), hcA]; simp [putB], h.nx]
    omega
  · intro _
    simp only
    rw [eT1 _ (by omega), Nat.add_sub_cancel, hT]
  · intro hn
    simp only at hn ⊢
    rw [eT2 _ (h.lB hn), h.a2 hn]
  · intro i hi
    simp only
    by_cases e : i = k
    · subst e
      rw [putM_at, putB_at, eT1 _ (Nat.le_refl _), hT]
      rfl
    · rw [putM_ne _ e, putB_ne _ e, h.c0 i hi]
      cases ha : s.A i with
      | false => rfl
      | true =>
        have := h.hA i ha
        simp only [cond_true]
        rw [eT1 _ (by omega)]
  · intro a ha i hi
    simp only at ha ⊢
    by_cases e : a = k
    · subst e
      have hb : s.B (a * 512 + i) = false := by
        cases hb : s.B (a * 512 + i) with
        | false => rfl
        | true => have := h.hA _ (h.BA _ hb); omega
      have hl : s.L1 (a * 512 + i) = 0 := by
        by_cases e : s.L1 (a * 512 + i) = 0
        · exact e
        · have := h.hA _ (h.L1A _ e); omega
      have h1 : 1 ≤ s.nx := by rw [h.nx]; omega
      rw [eT1 _ (Nat.le_refl _), hT, hb, hl, putM_ne _ (by omega), h.c3 _ (by omega)]
      rfl
    · rw [putB_ne _ e] at ha
      have h1 := h.hA a ha
      have h2 : 1 ≤ T1 s.A s.B a := by unfold T1; omega
      rw [eT1 _ (by omega), putM_ne _ (by omega), h.c1 a ha i hi]
      cases hb : s.B (a * 512 + i) with
      | false => rfl
      | true =>
        simp only [cond_true]
        rw [eT2 _ hb]
  · intro b hb i hi
    simp only at hb ⊢
    have h2 : 1 ≤ T2 s.A s.B b := by unfold T2; omega
    rw [eT2 _ hb, putM_ne _ (by omega), h.c2 b hb i hi]
  · intro x hx
    simp only at hx ⊢
    rw [putM_ne _ (by omega), h.c3 x (by omega)]
set_option maxHeartbeats 1000000 in
theorem Cl.step2 {base : Nat} {s : Bst} (h : Cl base s) {v : Nat} (hv : v / 1073741824 + 1 = s.n0) (hk2 : s.L1 (v / 2097152) = 0) : Cl base (step2 base s v) := by
  unfold Go.Proofs.Ytgjamnhepbblhaa.step2
  by_cases hk : v / 2097152 < s.n1
  · rw [if_pos hk]; exact h
  rw [if_neg hk]
  have hkn : v / 2097152 / 512 + 1 = s.n0 := by omega
  generalize v / 2097152 = k at *
  have h0 := h.n0
  have hcA : cntB s.A (k / 512 + 1) = cntB s.A s.n0 := by rw [hkn]
  have hcB : cntB s.B k = cntB s.B s.n1 := cntB_none (by omega) (fun i h1 _ => h.noB h1)
  have hAk : s.A (k / 512) = true := by have := h.lA (by omega); rwa [← hkn, Nat.add_sub_cancel] at this
  have ha1 : s.a1 = T1 s.A s.B (k / 512) := by rw [h.a1 (by omega), ← hkn, Nat.add_sub_cancel]
  have hnB : s.B k = false := h.noB (by omega)
  have eT1 : ∀ a, s.A a = true → T1 s.A (putB s.B k) a = T1 s.A s.B a := fun a ha => by
    have h1 := h.hA _ ha
    unfold T1
    rw [cntB_put (by omega)]
  have eT2 : ∀ b, b ≤ k → T2 s.A (putB s.B k) b = T2 s.A s.B b := fun b hb => by
    unfold T2
    rw [cntB_put hb]
  have hT : T2 s.A s.B k = s.nx := by unfold T2; rw [hcA, hcB, h.nx]
  refine { n0 := h.n0, n1 := by simp only; omega, hA := h.hA, hB := ?_, lA := h.lA, lB := ?_, BA := ?_, L1A := h.L1A, L2B := ?_, nx := ?_, a1 := ?_, a2 := ?_, c0 := ?_, c1 := ?_, c2 := ?_, c3 := ?_ }
  · intro a ha
    simp only [putB] at ha ⊢
    split at ha
    · omega
    · have := h.hB a ha; omega
  · intro _
    simp [putB]
  · intro b hb
    simp only [putB] at hb ⊢
    split at hb
    · rename_i e; rw [e]; exact hAk
    · exact h.BA b hb
  · intro b hb
    simp only [putB]
    split
    · rfl
    · exact h.L2B b hb
  · simp only
    rw [show cntB (putB s.B k) (k + 1) = cntB s.B s.n1 + 1 by simp only [cntB]; rw [cntB_put (Nat.le_refl _), hcB]; simp [putB], h.nx]
    omega
  · intro hn
    simp only at hn ⊢
    rw [eT1 _ (h.lA hn), h.a1 hn]
  · intro _
    simp only
    rw [eT2 _ (by omega), Nat.add_sub_cancel, hT]
  · intro i hi
    simp only
    have h2 : 1 ≤ s.a1 := by rw [ha1]; unfold T1; omega
    rw [putM_ne _ (by omega), h.c0 i hi]
    cases ha : s.A i with
    | false => rfl
    | true =>
      simp only [cond_true]
      rw [eT1 _ ha]
  · intro a ha i hi
    simp only at ha ⊢
    rw [eT1 _ ha, ha1]
    by_cases e : a * 512 + i = k
    · have ea : a = k / 512 := by omega
      have ei : i = k % 512 := by omega
      rw [e, putB_at, eT2 _ (Nat.le_refl _), hT, ← ea, ← ei, putM_at]
      rfl
    · rw [putM_ne _ ?_, putB_ne _ e, h.c1 a ha i hi]
      · cases hb : s.B (a * 512 + i) with
        | false => rfl
        | true =>
          have := h.hB _ hb
          simp only [cond_true]
          rw [eT2 _ (by omega)]
      · intro e2
        by_cases ea : a = k / 512
        · subst ea; omega
        · have := h.t11 ha hAk ea; omega
  · intro b hb i hi
    simp only at hb ⊢
    rw [ha1]
    by_cases e : b = k
    · subst e
      have h1 := h.t1_lt hAk
      have hl : s.L2 (b * 512 + i) = 0 := by
        by_cases e : s.L2 (b * 512 + i) = 0
        · exact e
        · have h3 := h.L2B _ e; rw [show (b * 512 + i) / 512 = b by omega, hnB] at h3; cases h3
      rw [eT2 _ (Nat.le_refl _), hT, hl, putM_ne _ (by omega), h.c3 _ (by omega)]
    · rw [putB_ne _ e] at hb
      have h1 := h.hB b hb
      have h2 := h.t12 hAk hb
      rw [eT2 _ (by omega), putM_ne _ (by omega), h.c2 b hb i hi]
  · intro x hx
    simp only at hx ⊢
    have h1 := h.t1_lt hAk
    rw [ha1, putM_ne _ (by omega), h.c3 x (by omega)]
theorem Cl.leaf1 {base : Nat} {s : Bst} (h : Cl base s) {u : Un} (hb : u.big = true) (hv : u.v / 1073741824 + 1 = s.n0) (hk2 : s.n1 ≤ u.v / 2097152) : Cl base (leafS s u) := by
  unfold leafS
  rw [if_pos hb]
  have hkn : u.v / 2097152 / 512 + 1 = s.n0 := by omega
  generalize u.v / 2097152 = k at *
  have hAk : s.A (k / 512) = true := by have := h.lA (by omega); rwa [← hkn, Nat.add_sub_cancel] at this
  have ha1 : s.a1 = T1 s.A s.B (k / 512) := by rw [h.a1 (by omega), ← hkn, Nat.add_sub_cancel]
  have hnB : s.B k = false := h.noB (by omega)
  refine { n0 := h.n0, n1 := h.n1, hA := h.hA, hB := h.hB, lA := h.lA, lB := h.lB, BA := h.BA, L1A := ?_, L2B := h.L2B, nx := h.nx, a1 := h.a1, a2 := h.a2, c0 := ?_, c1 := ?_, c2 := ?_, c3 := ?_ }
  · intro b hb
    simp only [putM] at hb
    split at hb
    · rename_i e; rw [e]; exact hAk
    · exact h.L1A b hb
  · intro i hi
    simp only
    have h2 : 1 ≤ s.a1 := by rw [ha1]; unfold T1; omega
    rw [putM_ne _ (by omega)]
    exact h.c0 i hi
  · intro a ha i hi
    simp only at ha ⊢
    rw [ha1]
    by_cases e : a * 512 + i = k
    · have ea : a = k / 512 := by omega
      have ei : i = k % 512 := by omega
      rw [e, hnB, putM_at, ← ea, ← ei, putM_at]
      rfl
    · rw [putM_ne _ ?_, putM_ne _ e, h.c1 a ha i hi]
      intro e2
      by_cases ea : a = k / 512
      · subst ea; omega
      · have := h.t11 ha hAk ea; omega
  · intro b hb i hi
    simp only at hb ⊢
    have h2 := h.t12 hAk hb
    rw [ha1, putM_ne _ (by omega)]
    exact h.c2 b hb i hi
  · intro x hx
    simp only at hx ⊢
    have h1 := h.t1_lt hAk
    rw [ha1, putM_ne _ (by omega)]
    exact h.c3 x hx
theorem Cl.leaf2 {base : Nat} {s : Bst} (h : Cl base s) {u : Un} (hb : ¬ u.big = true) (hv : u.v / 2097152 + 1 = s.n1) : Cl base (leafS s u) := by
  unfold leafS
  rw [if_neg hb]
  have hkn : u.v / 4096 / 512 + 1 = s.n1 := by omega
  generalize u.v / 4096 = k at *
  have hBk : s.B (k / 512) = true := by have := h.lB (by omega); rwa [← hkn, Nat.add_sub_cancel] at this
  have ha2 : s.a2 = T2 s.A s.B (k / 512) := by rw [h.a2 (by omega), ← hkn, Nat.add_sub_cancel]
  refine { n0 := h.n0, n1 := h.n1, hA := h.hA, hB := h.hB, lA := h.lA, lB := h.lB, BA := h.BA, L1A := h.L1A, L2B := ?_, nx := h.nx, a1 := h.a1, a2 := h.a2, c0 := ?_, c1 := ?_, c2 := ?_, c3 := ?_ }
  · intro b hb
    simp only [putM] at hb
    split at hb
    · rename_i e; rw [e]; exact hBk
    · exact h.L2B b hb
  · intro i hi
    simp only
    have h2 : 1 ≤ s.a2 := by rw [ha2]; unfold T2; omega
    rw [putM_ne _ (by omega)]
    exact h.c0 i hi
  · intro a ha i hi
    simp only at ha ⊢
    have h2 := h.t12 ha hBk
    rw [ha2, putM_ne _ (by omega)]
    exact h.c1 a ha i hi
  · intro b hb i hi
    simp only at hb ⊢
    rw [ha2]
    by_cases e : b * 512 + i = k
    · have ea : b = k / 512 := by omega
      have ei : i = k % 512 := by omega
      rw [e, putM_at, ← ea, ← ei, putM_at]
    · rw [putM_ne _ ?_, putM_ne _ e, h.c2 b hb i hi]
      intro e2
      by_cases ea : b = k / 512
      · subst ea; omega
      · have := h.t22 hb hBk ea; omega
  · intro x hx
    simp only at hx ⊢
    have h1 := h.t2_lt hBk
    rw [ha2, putM_ne _ (by omega)]
    exact h.c3 x hx
end Go.Proofs.Ytgjamnhepbblhaa
