import Derived.Test.YtgjamnhepbblhaaPk20
import Derived.Test.YtgjamnhepbblhaaPk23
import Derived.Test.YtgjamnhepbblhaaPk08
/- Pages: the builder's state in memory; down, set, row of any row (written by parts/gen_pgrw.py). Own work. -/
namespace Go.Proofs.Ytgjamnhepbblhaa
open Go.RowKit Wk
set_option linter.unusedVariables false
def o1V (G : Nat) (s : Bst) : Value := if s.n0 = 0 then .slice none 0 0 else win G (s.a1 * 512)
def o2V (G : Nat) (s : Bst) : Value := if s.n1 = 0 then .slice none 0 0 else win G (s.a2 * 512)
/-- the builder B over the list G of n tables -/
def Bw (w : World) (B G n base : Nat) (s : Bst) : Prop := GAt w G n s.M ∧ ∃ r, Bb w B (win G 0) (o1V G s) (o2V G s) r (base + s.nx * 4096) ∧ (s.nx < n → r = .slice (some ⟨G, s.nx * 512, none⟩) (n - s.nx) (n - s.nx))
theorem Bw.keeps {S : Nat → Prop} {w w' : World} {B G n base : Nat} {s : Bst} (h : Bw w B G n base s) (k : Keeps S w w') (hB : ¬ S B) (hG : ¬ S G) : Bw w' B G n base s := by
  obtain ⟨h1, r, h2, h3⟩ := h
  exact ⟨h1.keeps k hG, r, h2.keeps k hB, h3⟩
theorem Bw.below {w w' : World} {B G n base : Nat} {s : Bst} (h : Bw w B G n base s) (k : Below w.heap.size w w') : Bw w' B G n base s := by
  obtain ⟨h1, r, h2, h3⟩ := h
  exact ⟨h1.below k, r, h2.below k, h3⟩
theorem Bw.ltB {w : World} {B G n base : Nat} {s : Bst} (h : Bw w B G n base s) : B < w.heap.size := by
  obtain ⟨_, r, h2, _⟩ := h
  exact h2.lt
theorem Bw.ltG {w : World} {B G n base : Nat} {s : Bst} (h : Bw w B G n base s) : G < w.heap.size := h.1.lt
set_option maxRecDepth 20000 in
theorem thr0 {v : Nat} (hv : v < 549755813888) : thrF v 0 % 512 = v / 1073741824 := by
  have e : thrF v 0 = v / 1073741824 := rfl
  rw [e]
  exact Nat.mod_eq_of_lt (Nat.div_lt_of_lt_mul hv)
theorem thr1 (v : Nat) : thrF v 1 % 512 = v / 2097152 % 512 := rfl
theorem thr2 (v : Nat) : thrF v 2 % 512 = v / 4096 % 512 := rfl
set_option maxRecDepth 20000 in
theorem root_yes {base t : Nat} {s : Bst} (h : Cl base s) (hu : Up t s) {v : Nat} (ht : t ≤ v) (hk : v / 1073741824 < s.n0) : s.M (v / 1073741824) ≠ 0 := by
  have h0 := h.n0
  have := hu.u0 (by omega)
  have e : v / 1073741824 = s.n0 - 1 := by omega
  rw [h.c0 _ (by omega), e, h.lA (by omega), cond_true]
  omega
set_option maxRecDepth 20000 in
theorem root_no {base : Nat} {s : Bst} (h : Cl base s) {v : Nat} (hv : v < 549755813888) (hk : ¬ v / 1073741824 < s.n0) : s.M (v / 1073741824) = 0 := by
  rw [h.c0 _ (Nat.div_lt_of_lt_mul hv), h.noA (by omega), cond_false]
set_option maxRecDepth 20000 in
theorem mid_at {base : Nat} {s : Bst} (h : Cl base s) {v : Nat} (hk : v / 1073741824 + 1 = s.n0) : s.M (s.a1 * 512 + v / 2097152 % 512) = cond (s.B (v / 2097152)) (base + T2 s.A s.B (v / 2097152) * 4096 + 1) (s.L1 (v / 2097152)) := by
  have ha : s.A (v / 1073741824) = true := by have := h.lA (by omega); rwa [← hk, Nat.add_sub_cancel] at this
  have e : v / 1073741824 * 512 + v / 2097152 % 512 = v / 2097152 := by omega
  rw [h.a1 (by omega), ← hk, Nat.add_sub_cancel, h.c1 _ ha _ (Nat.mod_lt _ (by omega)), e]
set_option maxRecDepth 20000 in
theorem mid_yes {base t : Nat} {s : Bst} (h : Cl base s) (hu : Up t s) {v : Nat} (ht : t ≤ v) (hk : v / 1073741824 + 1 = s.n0) (hk1 : v / 2097152 < s.n1) : s.M (s.a1 * 512 + v / 2097152 % 512) ≠ 0 := by
  have := hu.u1 (by omega)
  have e : v / 2097152 = s.n1 - 1 := by omega
  have hb : s.B (v / 2097152) = true := by rw [e]; exact h.lB (by omega)
  rw [mid_at h hk, hb, cond_true]
  omega
theorem mid_no {base : Nat} {s : Bst} (h : Cl base s) {v : Nat} (hk : v / 1073741824 + 1 = s.n0) (hl : s.L1 (v / 2097152) = 0) (hk1 : ¬ v / 2097152 < s.n1) : s.M (s.a1 * 512 + v / 2097152 % 512) = 0 := by
  rw [mid_at h hk, h.noB (by omega), cond_false, hl]
theorem Cl.a1_lt {base : Nat} {s : Bst} (h : Cl base s) (hn : s.n0 ≠ 0) : s.a1 < s.nx := by rw [h.a1 hn]; exact h.t1_lt (h.lA hn)
theorem Cl.a2_lt {base : Nat} {s : Bst} (h : Cl base s) (hn : s.n1 ≠ 0) : s.a2 < s.nx := by rw [h.a2 hn]; exact h.t2_lt (h.lB hn)
set_option maxRecDepth 20000 in
theorem down_big {w : World} {B G n base t v : Nat} {q : Bst} (hw : Bw w B G n base q) (hc : Cl base q) (hu : Up t q) (ht : t ≤ v) (hv : v < 549755813888) (hn : (step1 base q v).nx ≤ n) (hN : n ≤ 1024) (hb : base % 4096 = 0) (hl : base + n * 4096 ≤ 4294967296) (hne : B ≠ G) : Calls Try.prog 47 #[.pointer (some ⟨B, 0, none⟩), .int .u64 (v : Int), .int .i64 1] w fun e w' => e = .returned (.tuple #[]) ∧ Bw w' B G n base (step1 base q v) ∧ Keeps (fun k => k = B ∨ k = G) w w' := by
  obtain ⟨h1, r, h2, h3⟩ := hw
  have hx : 1 ≤ q.nx := by rw [hc.nx]; omega
  by_cases hk : v / 1073741824 < q.n0
  · have es : step1 base q v = q := by unfold step1; rw [if_pos hk]
    rw [es] at hn ⊢
    refine (down1_P h2 h1 (by omega) hne (root_yes hc hu ht hk) (thr0 hv)).mono ?_
    rintro e w' ⟨rfl, ⟨a, b⟩, c⟩
    exact ⟨rfl, ⟨b, r, a, h3⟩, c⟩
  · have e1 : (step1 base q v).nx = q.nx + 1 := by unfold step1; rw [if_neg hk]
    have e2 : o1V G (step1 base q v) = win G (q.nx * 512) := by unfold o1V step1; rw [if_neg hk]; exact if_neg (Nat.succ_ne_zero _)
    have e3 : o2V G (step1 base q v) = o2V G q := by unfold o2V step1; rw [if_neg hk]
    have e4 : (step1 base q v).M = putM q.M (v / 1073741824) (base + q.nx * 4096 + 1) := by unfold step1; rw [if_neg hk]
    rw [e1] at hn
    obtain ⟨m, hm⟩ : ∃ m, n - q.nx = m + 1 := ⟨n - q.nx - 1, by omega⟩
    have h4 := h3 (by omega)
    subst h4
    rw [hm] at h2
    refine (down1_A (k := q.nx) (m := m) h2 h1 (by omega) hne (root_no hc hv hk) (by omega) (by omega) (by omega) (thr0 hv)).mono ?_
    rintro e w' ⟨rfl, ⟨⟨r', a, a'⟩, b⟩, c⟩
    refine ⟨rfl, ⟨?_, r', ?_, ?_⟩, c⟩
    · rw [e4]; exact b
    · rw [e2, e3, e1, show base + (q.nx + 1) * 4096 = base + q.nx * 4096 + 4096 by omega]; exact a
    · rw [e1]
      intro hlt
      rw [a' (by omega), show (q.nx + 1) * 512 = q.nx * 512 + 512 by omega, show n - (q.nx + 1) = m by omega]
set_option maxRecDepth 20000 in
theorem down_small {w : World} {B G n base t v : Nat} {q : Bst} (hw : Bw w B G n base q) (hc : Cl base q) (hu : Up t q) (ht : t ≤ v) (hv : v < 549755813888) (hn : (step2 base (step1 base q v) v).nx ≤ n) (hN : n ≤ 1024) (hb : base % 4096 = 0) (hl : base + n * 4096 ≤ 4294967296) (hne : B ≠ G) : Calls Try.prog 47 #[.pointer (some ⟨B, 0, none⟩), .int .u64 (v : Int), .int .i64 2] w fun e w' => e = .returned (.tuple #[]) ∧ Bw w' B G n base (step2 base (step1 base q v) v) ∧ Keeps (fun k => k = B ∨ k = G) w w' := by
  obtain ⟨h1, r, h2, h3⟩ := hw
  have hx : 1 ≤ q.nx := by rw [hc.nx]; omega
  by_cases hk : v / 1073741824 < q.n0
  · have es : step1 base q v = q := by unfold step1; rw [if_pos hk]
    have hk0 : v / 1073741824 + 1 = q.n0 := by
      have := hu.u0 (by omega)
      omega
    have eo1 : o1V G q = win G (q.a1 * 512) := by unfold o1V; exact if_neg (by omega)
    have ha1 := hc.a1_lt (by omega)
    rw [es] at hn ⊢
    rw [eo1] at h2
    by_cases hk1 : v / 2097152 < q.n1
    · have es2 : step2 base q v = q := by unfold step2; rw [if_pos hk1]
      rw [es2] at hn ⊢
      refine (down2_PP h2 h1 (by omega) (by omega) hne (root_yes hc hu ht hk) (mid_yes hc hu ht hk0 hk1) (thr0 hv) (thr1 v)).mono ?_
      rintro e w' ⟨rfl, ⟨a, b⟩, c⟩
      exact ⟨rfl, ⟨b, r, by rw [eo1]; exact a, h3⟩, c⟩
    · have e1 : (step2 base q v).nx = q.nx + 1 := by unfold step2; rw [if_neg hk1]
      have e2 : o2V G (step2 base q v) = win G (q.nx * 512) := by unfold o2V step2; rw [if_neg hk1]; exact if_neg (Nat.succ_ne_zero _)
      have e3 : o1V G (step2 base q v) = win G (q.a1 * 512) := by rw [← eo1]; unfold o1V step2; rw [if_neg hk1]
      have e4 : (step2 base q v).M = putM q.M (q.a1 * 512 + v / 2097152 % 512) (base + q.nx * 4096 + 1) := by unfold step2; rw [if_neg hk1]
      rw [e1] at hn
      obtain ⟨m, hm⟩ : ∃ m, n - q.nx = m + 1 := ⟨n - q.nx - 1, by omega⟩
      have h4 := h3 (by omega)
      subst h4
      rw [hm] at h2
      refine (down2_PA (k := q.nx) (m := m) h2 h1 (by omega) (by omega) hne (root_yes hc hu ht hk) (mid_no hc hk0 (hu.L1z ht) hk1) (by omega) (by omega) (by omega) (thr0 hv) (thr1 v)).mono ?_
      rintro e w' ⟨rfl, ⟨⟨r', a, a'⟩, b⟩, c⟩
      refine ⟨rfl, ⟨?_, r', ?_, ?_⟩, c⟩
      · rw [e4]; exact b
      · rw [e2, e3, e1, show base + (q.nx + 1) * 4096 = base + q.nx * 4096 + 4096 by omega]; exact a
      · rw [e1]
        intro hlt
        rw [a' (by omega), show (q.nx + 1) * 512 = q.nx * 512 + 512 by omega, show n - (q.nx + 1) = m by omega]
  · have hc1 := hc.step1 hv
    have en0 := step1_n0 (base := base) hu ht
    obtain ⟨r1, r2, r3, r4, r5, r6⟩ := step1_rest (base := base) (s := q) (v := v)
    rw [if_neg hk] at r6
    have e4 : (step1 base q v).M = putM q.M (v / 1073741824) (base + q.nx * 4096 + 1) := by unfold step1; rw [if_neg hk]
    have ea1 : (step1 base q v).a1 = q.nx := by unfold step1; rw [if_neg hk]
    have hk1 : ¬ v / 2097152 < (step1 base q v).n1 := by
      rw [r1]
      have := hc.n1_le
      omega
    have e5 : (step2 base (step1 base q v) v).nx = q.nx + 1 + 1 := by
      have := (step2_rest (base := base) (s := step1 base q v) (v := v)).2.2.2.2.2
      rw [if_neg hk1, r6] at this
      exact this
    have e6 : o2V G (step2 base (step1 base q v) v) = win G (q.nx * 512 + 512) := by
      unfold o2V step2
      rw [if_neg hk1]
      simp only
      rw [if_neg (by omega), r6, show (q.nx + 1) * 512 = q.nx * 512 + 512 by omega]
    have e7 : o1V G (step2 base (step1 base q v) v) = win G (q.nx * 512) := by
      unfold o1V step2
      rw [if_neg hk1]
      simp only
      rw [if_neg (by omega), ea1]
    have e8 : (step2 base (step1 base q v) v).M = putM (putM q.M (v / 1073741824) (base + q.nx * 4096 + 1)) (q.nx * 512 + v / 2097152 % 512) (base + q.nx * 4096 + 4096 + 1) := by
      unfold step2
      rw [if_neg hk1]
      simp only
      rw [e4, ea1, r6, show base + (q.nx + 1) * 4096 = base + q.nx * 4096 + 4096 by omega]
    rw [e5] at hn
    have hmid := mid_no hc1 (v := v) en0.symm (by rw [r3]; exact hu.L1z ht) hk1
    rw [e4, ea1] at hmid
    obtain ⟨m, hm⟩ : ∃ m, n - q.nx = m + 1 + 1 := ⟨n - q.nx - 2, by omega⟩
    have h4 := h3 (by omega)
    subst h4
    rw [hm] at h2
    refine (down2_AA (k := q.nx) (m := m) h2 h1 (by omega) (by omega) hne (root_no hc hv hk) hmid (by omega) (by omega) (by omega) (thr0 hv) (thr1 v)).mono ?_
    rintro e w' ⟨rfl, ⟨⟨r', a, a'⟩, b⟩, c⟩
    refine ⟨rfl, ⟨?_, r', ?_, ?_⟩, c⟩
    · rw [e8]; exact b
    · rw [e6, e7, e5, show base + (q.nx + 1 + 1) * 4096 = base + q.nx * 4096 + 4096 + 4096 by omega]; exact a
    · rw [e5]
      intro hlt
      rw [a' (by omega), show (q.nx + 1 + 1) * 512 = q.nx * 512 + 512 + 512 by omega, show n - (q.nx + 1 + 1) = m by omega]
theorem set_big {w : World} {B G n base : Nat} {q : Bst} {u : Un} (hb : u.big = true) (hw : Bw w B G n base q) (h0 : q.n0 ≠ 0) (ha : q.a1 < n) (hp : u.p % 2097152 = 0) (hl : u.p < 4294967296) (hne : B ≠ G) : Calls Try.prog 48 #[.pointer (some ⟨B, 0, none⟩), .int .u64 (u.v : Int), .int .i64 1, .agg #[.int .u64 (u.p : Int), .bool false, .bool true, .bool u.wr, .bool u.ex]] w fun e w' => e = .returned (.tuple #[]) ∧ Bw w' B G n base (leafS q u) ∧ Keeps (fun k => k = G) w w' := by
  obtain ⟨h1, r, h2, h3⟩ := hw
  have eo1 : o1V G q = win G (q.a1 * 512) := by unfold o1V; exact if_neg h0
  have h2' := h2
  rw [eo1] at h2
  refine (set1 (k := q.a1) (v := u.v) (x := (u.p, false, true, u.wr, u.ex)) h2 h1 ha hne (by show u.p < _; omega) (mk_big hp hl u.wr u.ex)).mono ?_
  rintro e w' ⟨rfl, a, c⟩
  have e1 : leafS q u = { q with L1 := putM q.L1 (u.v / 2097152) u.val, M := putM q.M (q.a1 * 512 + u.v / 2097152 % 512) u.val } := by unfold leafS; rw [if_pos hb]
  rw [e1]
  refine ⟨rfl, ⟨?_, r, h2'.keeps c hne, h3⟩, c⟩
  rw [thr1] at a
  have e2 : u.val = u.p + (1 + nbit u.wr 2 + nbit u.ex 4 + nbit true 8) := by unfold Un.val; rw [hb]
  rw [e2]
  exact a
theorem set_small {w : World} {B G n base : Nat} {q : Bst} {u : Un} (hb : u.big = false) (hw : Bw w B G n base q) (h0 : q.n1 ≠ 0) (ha : q.a2 < n) (hp : u.p % 4096 = 0) (hl : u.p < 4294967296) (hne : B ≠ G) : Calls Try.prog 48 #[.pointer (some ⟨B, 0, none⟩), .int .u64 (u.v : Int), .int .i64 2, .agg #[.int .u64 (u.p : Int), .bool false, .bool false, .bool u.wr, .bool u.ex]] w fun e w' => e = .returned (.tuple #[]) ∧ Bw w' B G n base (leafS q u) ∧ Keeps (fun k => k = G) w w' := by
  obtain ⟨h1, r, h2, h3⟩ := hw
  have eo1 : o2V G q = win G (q.a2 * 512) := by unfold o2V; exact if_neg h0
  have h2' := h2
  rw [eo1] at h2
  refine (set2 (k := q.a2) (v := u.v) (x := (u.p, false, false, u.wr, u.ex)) h2 h1 ha hne (by show u.p < _; omega) (mk_page hp hl u.wr u.ex)).mono ?_
  rintro e w' ⟨rfl, a, c⟩
  have e1 : leafS q u = { q with L2 := putM q.L2 (u.v / 4096) u.val, M := putM q.M (q.a2 * 512 + u.v / 4096 % 512) u.val } := by unfold leafS; rw [if_neg (by rw [hb]; decide)]
  rw [e1]
  refine ⟨rfl, ⟨?_, r, h2'.keeps c hne, h3⟩, c⟩
  rw [thr2] at a
  have e2 : u.val = u.p + (1 + nbit u.wr 2 + nbit u.ex 4 + nbit false 8) := by unfold Un.val; rw [hb]
  rw [e2]
  exact a
set_option maxRecDepth 100000 in
theorem rowdn_big {B G n base t : Nat} {s : Bst} {x : L6} (hbig : x.big = true) (hx : aloneF x = 0) (ht : t ≤ x.v) (hc : Cl base s) (hu : Up t s) (hn : (buildU base s (unitsL x)).nx ≤ n) (hN : n ≤ 1024) (hb : base % 4096 = 0) (hl : base + n * 4096 ≤ 4294967296) (hne : B ≠ G) : ∀ i, i < cntU x → ∀ W, Bw W B G n base (buildU base s (unitsN x i)) → Calls Try.prog 47 #[.pointer (some ⟨B, 0, none⟩), .int .u64 ((x.v + i * 2097152 : Nat) : Int), .int .i64 1] W fun e w' => e = .returned (.tuple #[]) ∧ Bw w' B G n base (downS base (buildU base s (unitsN x i)) (unitAt x i)) ∧ Keeps (fun k => k = B ∨ k = G) W w' := by
  obtain ⟨z1, z2, z3, z4, z5, z6⟩ := aloneF_zero hx
  obtain ⟨hm, hcn⟩ := cntU_mul hx
  have hU : unitF x = 2097152 := by unfold unitF; rw [hbig]; rfl
  intro i hi W hW
  obtain ⟨c, u⟩ := row_good hx ht hc hu i (by omega)
  have hnx : (stepU base (buildU base s (unitsN x i)) (unitAt x i)).nx ≤ n := by
    rw [← buildU_succ]
    refine Nat.le_trans ?_ hn
    have e : unitsL x = unitsN x (i + 1) ++ (List.range (cntU x - (i + 1))).map (fun k => unitAt x (i + 1 + k)) := by
      have h5 : ∀ b, unitsN x (i + 1 + b) = unitsN x (i + 1) ++ (List.range b).map (fun k => unitAt x (i + 1 + k)) := by
        intro b
        induction b with
        | zero => simp
        | succ b ih => rw [← Nat.add_assoc, unitsN_succ, ih, List.range_succ, List.map_append, List.append_assoc]; rfl
      rw [← h5]
      unfold unitsL
      congr 1
      omega
    rw [e, buildU_app]
    exact buildU_nx base _ _
  have hnx2 : (downS base (buildU base s (unitsN x i)) (unitAt x i)).nx ≤ n := by
    unfold stepU at hnx
    rwa [(leafS_rest (s := downS base (buildU base s (unitsN x i)) (unitAt x i)) (u := unitAt x i)).2.2.2.2] at hnx
  have hvu : (unitAt x i).v = x.v + i * 2097152 := by show x.v + i * unitF x = _; rw [hU]
  have hdn : downS base (buildU base s (unitsN x i)) (unitAt x i) = step1 base (buildU base s (unitsN x i)) (x.v + i * 2097152) := by
    unfold downS
    rw [if_pos (show (unitAt x i).big = true from hbig), hvu]
  rw [hdn] at hnx2 ⊢
  rw [hU] at u
  have hlt : (i + 1) * unitF x ≤ cntU x * unitF x := Nat.mul_le_mul_right _ hi
  rw [hm, Nat.add_mul, hU] at hlt
  exact down_big hW c u (Nat.le_refl _) (by omega) hnx2 hN hb hl hne
set_option maxRecDepth 100000 in
theorem rowst_big {B G n base t : Nat} {s : Bst} {x : L6} (hbig : x.big = true) (hx : aloneF x = 0) (ht : t ≤ x.v) (hc : Cl base s) (hu : Up t s) (hn : (buildU base s (unitsL x)).nx ≤ n) (hN : n ≤ 1024) (hb : base % 4096 = 0) (hl : base + n * 4096 ≤ 4294967296) (hne : B ≠ G) : ∀ i, i < cntU x → ∀ W, Bw W B G n base (downS base (buildU base s (unitsN x i)) (unitAt x i)) → Calls Try.prog 48 #[.pointer (some ⟨B, 0, none⟩), .int .u64 ((x.v + i * 2097152 : Nat) : Int), .int .i64 1, .agg #[.int .u64 ((x.p + i * 2097152 : Nat) : Int), .bool false, .bool true, .bool x.wr, .bool x.ex]] W fun e w' => e = .returned (.tuple #[]) ∧ Bw w' B G n base (buildU base s (unitsN x (i + 1))) ∧ Keeps (fun k => k = G) W w' := by
  obtain ⟨z1, z2, z3, z4, z5, z6⟩ := aloneF_zero hx
  obtain ⟨hm, hcn⟩ := cntU_mul hx
  have hU : unitF x = 2097152 := by unfold unitF; rw [hbig]; rfl
  intro i hi W hW
  obtain ⟨c, u⟩ := row_good hx ht hc hu i (by omega)
  have hnx : (buildU base s (unitsN x (i + 1))).nx ≤ n := by
    refine Nat.le_trans ?_ hn
    have h5 : ∀ b, unitsN x (i + 1 + b) = unitsN x (i + 1) ++ (List.range b).map (fun k => unitAt x (i + 1 + k)) := by
      intro b
      induction b with
      | zero => simp
      | succ b ih => rw [← Nat.add_assoc, unitsN_succ, ih, List.range_succ, List.map_append, List.append_assoc]; rfl
    have e : unitsL x = unitsN x (i + 1) ++ (List.range (cntU x - (i + 1))).map (fun k => unitAt x (i + 1 + k)) := by
      rw [← h5]
      unfold unitsL
      congr 1
      omega
    rw [e, buildU_app]
    exact buildU_nx base _ _
  have hvu : (unitAt x i).v = x.v + i * 2097152 := by show x.v + i * unitF x = _; rw [hU]
  have hpu : (unitAt x i).p = x.p + i * 2097152 := by show x.p + i * unitF x = _; rw [hU]
  have hlt : (i + 1) * unitF x ≤ cntU x * unitF x := Nat.mul_le_mul_right _ hi
  rw [hm, Nat.add_mul, hU] at hlt
  rw [hU] at u z3
  have hb2 : (unitAt x i).big = true := hbig
  have hvlt : (unitAt x i).v < 549755813888 := by rw [hvu]; omega
  have hle : x.v + i * 2097152 ≤ (unitAt x i).v := by rw [hvu]; exact Nat.le_refl _
  rw [buildU_succ] at hnx ⊢
  unfold stepU at hnx ⊢
  rw [(leafS_rest (s := downS base (buildU base s (unitsN x i)) (unitAt x i)) (u := unitAt x i)).2.2.2.2] at hnx
  have hset := set_big (u := unitAt x i) hb2 hW ?_ ?_ (by rw [hpu]; omega) (by rw [hpu]; omega) hne
  · rw [hvu, hpu] at hset
    exact hset
  · unfold downS
    rw [if_pos hb2, step1_n0 u hle]
    exact Nat.succ_ne_zero _
  · refine Nat.lt_of_lt_of_le ?_ hnx
    unfold downS
    rw [if_pos hb2]
    exact (c.step1 hvlt).a1_lt (by rw [step1_n0 u hle]; exact Nat.succ_ne_zero _)
set_option maxRecDepth 100000 in
set_option maxHeartbeats 4000000 in
theorem row_big {w : World} {B G n base t : Nat} {s : Bst} {x : L6} (hbig : x.big = true) (hx : aloneF x = 0) (ht : t ≤ x.v) (hw : Bw w B G n base s) (hc : Cl base s) (hu : Up t s) (hn : (buildU base s (unitsL x)).nx ≤ n) (hN : n ≤ 1024) (hb : base % 4096 = 0) (hl : base + n * 4096 ≤ 4294967296) (hne : B ≠ G) : Calls Try.prog 35 #[.pointer (some ⟨B, 0, none⟩), V6 x] w fun e w' => e = .returned (.tuple #[]) ∧ Bw w' B G n base (buildU base s (unitsL x)) ∧ Keeps (fun k => k = B ∨ k = G) w w' := by
  obtain ⟨z1, z2, z3, z4, z5, z6⟩ := aloneF_zero hx
  obtain ⟨hm, hcn⟩ := cntU_mul hx
  have hU : unitF x = 2097152 := by unfold unitF; rw [hbig]; rfl
  have HST := Lib.hid (rowdn_big hbig hx ht hc hu hn hN hb hl hne)
  have HSE := Lib.hid (rowst_big hbig hx ht hc hu hn hN hb hl hne)
  have HB0 := Lib.hid hw
  obtain ⟨xv, xp, xn, xb, xw, xe⟩ := x
  simp only at hbig z1 z4 z5
  subst hbig
  obtain ⟨m, rfl⟩ : ∃ m : Nat, xn = (m : Int) := ⟨xn.toNat, by omega⟩
  have z4 : xv + m * 4096 ≤ 549755813888 := z4
  have z5 : xp + m * 4096 ≤ 4294967296 := z5
  rw [hU] at hm
  have hm : cntU ⟨xv, xp, (m : Int), true, xw, xe⟩ * 2097152 = m * 4096 := hm
  obtain ⟨c, hcc⟩ : ∃ c, cntU ⟨xv, xp, (m : Int), true, xw, xe⟩ = c := ⟨_, rfl⟩
  obtain ⟨Q, hQ⟩ : ∃ Q : Nat → Bst, ∀ i : Nat, buildU base s (unitsN ⟨xv, xp, (m : Int), true, xw, xe⟩ i) = Q i := ⟨fun i => buildU base s (unitsN ⟨xv, xp, (m : Int), true, xw, xe⟩ i), fun _ => rfl⟩
  obtain ⟨Q', hQ'⟩ : ∃ Q' : Nat → Bst, ∀ i : Nat, downS base (buildU base s (unitsN ⟨xv, xp, (m : Int), true, xw, xe⟩ i)) (unitAt ⟨xv, xp, (m : Int), true, xw, xe⟩ i) = Q' i := ⟨fun i => downS base (buildU base s (unitsN ⟨xv, xp, (m : Int), true, xw, xe⟩ i)) (unitAt ⟨xv, xp, (m : Int), true, xw, xe⟩ i), fun _ => rfl⟩
  have HST : Hid (∀ i, i < c → ∀ W, Bw W B G n base (Q i) → Calls Try.prog 47 #[.pointer (some ⟨B, 0, none⟩), .int .u64 ((xv + i * 2097152 : Nat) : Int), .int .i64 1] W fun e w' => e = .returned (.tuple #[]) ∧ Bw w' B G n base (Q' i) ∧ Keeps (fun k => k = B ∨ k = G) W w') := fun i hi W hW => by
    have h5 := HST.out i (by rw [hcc]; exact hi) W (by rw [hQ]; exact hW)
    rw [hQ'] at h5
    exact h5
  have HSE : Hid (∀ i, i < c → ∀ W, Bw W B G n base (Q' i) → Calls Try.prog 48 #[.pointer (some ⟨B, 0, none⟩), .int .u64 ((xv + i * 2097152 : Nat) : Int), .int .i64 1, .agg #[.int .u64 ((xp + i * 2097152 : Nat) : Int), .bool false, .bool true, .bool xw, .bool xe]] W fun e w' => e = .returned (.tuple #[]) ∧ Bw w' B G n base (Q (i + 1)) ∧ Keeps (fun k => k = G) W w') := fun i hi W hW => by
    have h5 := HSE.out i (by rw [hcc]; exact hi) W (by rw [hQ']; exact hW)
    rw [hQ] at h5
    exact h5
  have HBw0 : Hid (Bw w B G n base (Q 0)) := by rw [← hQ 0]; exact hw
  have hgoal : buildU base s (unitsL ⟨xv, xp, (m : Int), true, xw, xe⟩) = Q c := by rw [← hQ c, ← hcc]; rfl
  rw [hgoal]
  rw [hcc] at hm hcn
  have HL : Hid (LfAt (w.alloc (.cells #[.int .u64 (xv : Int), .int .u64 (xp : Int), .int .i64 (m : Int), .bool true, .bool xw, .bool xe] 34)) w.heap.size ⟨xv, xp, (m : Int), true, xw, xe⟩) := heap_alloc_new w _
  have HBl : Hid (Below w.heap.size w (w.alloc (.cells #[.int .u64 (xv : Int), .int .u64 (xp : Int), .int .i64 (m : Int), .bool true, .bool xw, .bool xe] 34))) := (Below.refl _ _).alloc (Nat.le_refl _) _
  have HSz : Hid (∀ W, Calls Try.prog 45 #[.agg #[.int .u64 (xv : Int), .int .u64 (xp : Int), .int .i64 (m : Int), .bool true, .bool xw, .bool xe]] W fun e w' => e = .returned (.int .u64 ((m * 4096 : Nat) : Int)) ∧ Below W.heap.size W w') := fun W => size_any (x := ⟨xv, xp, (m : Int), true, xw, xe⟩) (m := m) rfl (by omega) W
  have HLv : Hid (∀ W, Calls Try.prog 40 #[.bool true] W fun e w' => e = .returned (.int .i64 1) ∧ w' = W) := fun W => leafLevel_any true W
  obtain ⟨Sz, hSz⟩ : ∃ Sz, m * 4096 = Sz := ⟨_, rfl⟩
  rw [hSz] at HSz hm z4 z5
  obtain ⟨U, hUU⟩ : ∃ U : Nat, (2097152 : Nat) = U := ⟨_, rfl⟩
  have hU1 : 1 ≤ U ∧ U ≤ 2097152 := by omega
  have HUn : Hid (∀ W, Calls Try.prog 46 #[.agg #[.int .u64 (xv : Int), .int .u64 (xp : Int), .int .i64 (m : Int), .bool true, .bool xw, .bool xe]] W fun e w' => e = .returned (.int .u64 ((U : Nat) : Int)) ∧ Below W.heap.size W w') := fun W => by rw [← hUU]; exact unit_any ⟨xv, xp, (m : Int), true, xw, xe⟩ W
  rw [hUU] at HST HSE hm
  clear hUU
  have hXB : w.heap.size ≠ B := Nat.ne_of_gt hw.ltB
  have hXG : w.heap.size ≠ G := Nat.ne_of_gt hw.ltG
  have HM := Lib.hid hm
  clear hgoal hQ hQ' hcc hw hc hu hn hx ht z1 z2 z3 z6 hU hSz HB0 hm hb hl hN
  unfold V6
  simp only
  go_enter Try.func35, Try.ntmps35
  go_wp2_with fail
  refine (HLv.out _).mono ?_
  rintro e w1 ⟨rfl, rfl⟩
  have HB1 := Lib.hid (HBw0.out.below HBl.out)
  have HK1 := Lib.hid (Keeps.of_below (S := fun q => q = B ∨ q = G) HBl.out)
  generalize (w.alloc (.cells #[.int .u64 (xv : Int), .int .u64 (xp : Int), .int .i64 (m : Int), .bool true, .bool xw, .bool xe] 34)) = w1 at *
  clear HBl HBw0
  generalize w.heap.size = X at *
  obtain ⟨c0, c1, c2, c3, c4, c5⟩ : w1.cell? ⟨X, 0, none⟩ = some (.int .u64 (xv : Int)) ∧ w1.cell? ⟨X, 1, none⟩ = some (.int .u64 (xp : Int)) ∧ w1.cell? ⟨X, 2, none⟩ = some (.int .i64 (m : Int)) ∧ w1.cell? ⟨X, 3, none⟩ = some (.bool true) ∧ w1.cell? ⟨X, 4, none⟩ = some (.bool xw) ∧ w1.cell? ⟨X, 5, none⟩ = some (.bool xe) := HL.out.cells
  go_wp2_with fail
  clear c0 c1 c2 c3 c4 c5
  go_loopw [5] (fun ov wr => ∃ (i off : Nat), i ≤ c ∧ ov = .int .u64 (off : Int) ∧ Hid (off = i * U) ∧ off ≤ Sz ∧ Hid (LfAt wr X ⟨xv, xp, (m : Int), true, xw, xe⟩) ∧ Hid (Bw wr B G n base (Q i)) ∧ Hid (Keeps (fun k => k = B ∨ k = G) w wr)) (fun ov _ => Sz - (intOf ov).toNat)
  case atStart => exact ⟨0, 0, by omega, rfl, Lib.hid (Nat.zero_mul _).symm, by omega, HL, HB1, HK1⟩
  case round =>
    clear HL HB1 HK1
    obtain ⟨i, off, hi, rfl, HO, hoS, HL, HB, HK⟩ := hrel
    obtain ⟨c0, c1, c2, c3, c4, c5⟩ : wr.cell? ⟨X, 0, none⟩ = some (.int .u64 (xv : Int)) ∧ wr.cell? ⟨X, 1, none⟩ = some (.int .u64 (xp : Int)) ∧ wr.cell? ⟨X, 2, none⟩ = some (.int .i64 (m : Int)) ∧ wr.cell? ⟨X, 3, none⟩ = some (.bool true) ∧ wr.cell? ⟨X, 4, none⟩ = some (.bool xw) ∧ wr.cell? ⟨X, 5, none⟩ = some (.bool xe) := HL.out.cells
    by_cases hin : i < c
    · have hlt : off + U ≤ Sz := by
        have h1 : (i + 1) * U ≤ c * U := Nat.mul_le_mul_right _ hin
        have h2 := HM.out
        have h3 := HO.out
        rw [Nat.add_mul, Nat.one_mul] at h1
        omega
      have jlt : (off : Int) < (Sz : Int) := by omega
      have HD : Hid (∀ W, Bw W B G n base (Q i) → Calls Try.prog 47 #[.pointer (some ⟨B, 0, none⟩), .int .u64 ((xv + off : Nat) : Int), .int .i64 1] W fun e w' => e = .returned (.tuple #[]) ∧ Bw w' B G n base (Q' i) ∧ Keeps (fun k => k = B ∨ k = G) W w') := by rw [HO.out]; exact HST.out i hin
      have HE : Hid (∀ W, Bw W B G n base (Q' i) → Calls Try.prog 48 #[.pointer (some ⟨B, 0, none⟩), .int .u64 ((xv + off : Nat) : Int), .int .i64 1, .agg #[.int .u64 ((xp + off : Nat) : Int), .bool false, .bool true, .bool xw, .bool xe]] W fun e w' => e = .returned (.tuple #[]) ∧ Bw w' B G n base (Q (i + 1)) ∧ Keeps (fun k => k = G) W w') := by rw [HO.out]; exact HSE.out i hin
      have wv : IntKind.u64.wrap ((xv : Int) + (off : Int)) = ((xv + off : Nat) : Int) := by rw [IntKind.wrap_u64]; omega
      have wp : IntKind.u64.wrap ((xp : Int) + (off : Int)) = ((xp + off : Nat) : Int) := by rw [IntKind.wrap_u64]; omega
      have wo : IntKind.u64.wrap ((off : Int) + (U : Int)) = ((off + U : Nat) : Int) := by rw [IntKind.wrap_u64]; omega
      have HO2 : Hid (off + U = (i + 1) * U) := Lib.hid (by rw [HO.out, Nat.add_mul, Nat.one_mul])
      obtain ⟨av, hav⟩ : ∃ av, xv + off = av := ⟨_, rfl⟩
      obtain ⟨ap, hap⟩ : ∃ ap, xp + off = ap := ⟨_, rfl⟩
      rw [hav] at HD HE wv
      rw [hap] at HE wp
      clear hav hap HO HST HSE
      go_wp2_with fail
      refine (HSz.out _).mono ?_
      rintro e w2 ⟨rfl, hb2⟩
      have HL2 := Lib.hid (HL.out.below hb2)
      have HB2 := Lib.hid (HB.out.below hb2)
      have HK2 := Lib.hid (HK.out.trans (Keeps.of_below (S := fun _ => False) hb2) (fun _ _ e => e.elim))
      clear hb2 HL HB HK c0 c1 c2 c3 c4 c5
      obtain ⟨c0, c1, c2, c3, c4, c5⟩ : w2.cell? ⟨X, 0, none⟩ = some (.int .u64 (xv : Int)) ∧ w2.cell? ⟨X, 1, none⟩ = some (.int .u64 (xp : Int)) ∧ w2.cell? ⟨X, 2, none⟩ = some (.int .i64 (m : Int)) ∧ w2.cell? ⟨X, 3, none⟩ = some (.bool true) ∧ w2.cell? ⟨X, 4, none⟩ = some (.bool xw) ∧ w2.cell? ⟨X, 5, none⟩ = some (.bool xe) := HL2.out.cells
      go_wp2_with fail
      refine (HD.out _ HB2.out).mono ?_
      rintro e w3 ⟨rfl, hb3, hk3⟩
      have HL3 := Lib.hid (HL2.out.keeps hk3 (fun e => e.elim hXB hXG))
      have HB3 := Lib.hid hb3
      have HK3 := Lib.hid (HK2.out.trans hk3 (fun _ _ e => e))
      clear hb3 hk3 HL2 HB2 HK2 c0 c1 c2 c3 c4 c5
      obtain ⟨c0, c1, c2, c3, c4, c5⟩ : w3.cell? ⟨X, 0, none⟩ = some (.int .u64 (xv : Int)) ∧ w3.cell? ⟨X, 1, none⟩ = some (.int .u64 (xp : Int)) ∧ w3.cell? ⟨X, 2, none⟩ = some (.int .i64 (m : Int)) ∧ w3.cell? ⟨X, 3, none⟩ = some (.bool true) ∧ w3.cell? ⟨X, 4, none⟩ = some (.bool xw) ∧ w3.cell? ⟨X, 5, none⟩ = some (.bool xe) := HL3.out.cells
      go_wp2_with fail
      refine (HE.out _ HB3.out).mono ?_
      rintro e w4 ⟨rfl, hb4, hk4⟩
      have HL4 := Lib.hid (HL3.out.keeps hk4 hXG)
      have HB4 := Lib.hid hb4
      have HK4 := Lib.hid (HK3.out.trans hk4 (fun _ _ e => Or.inr e))
      clear hb4 hk4 HL3 HB3 HK3 c0 c1 c2 c3 c4 c5
      obtain ⟨c0, c1, c2, c3, c4, c5⟩ : w4.cell? ⟨X, 0, none⟩ = some (.int .u64 (xv : Int)) ∧ w4.cell? ⟨X, 1, none⟩ = some (.int .u64 (xp : Int)) ∧ w4.cell? ⟨X, 2, none⟩ = some (.int .i64 (m : Int)) ∧ w4.cell? ⟨X, 3, none⟩ = some (.bool true) ∧ w4.cell? ⟨X, 4, none⟩ = some (.bool xw) ∧ w4.cell? ⟨X, 5, none⟩ = some (.bool xe) := HL4.out.cells
      go_wp2_with fail
      refine (HUn.out _).mono ?_
      rintro e w5 ⟨rfl, hb5⟩
      have HL5 := Lib.hid (HL4.out.below hb5)
      have HB5 := Lib.hid (HB4.out.below hb5)
      have HK5 := Lib.hid (HK4.out.trans (Keeps.of_below (S := fun _ => False) hb5) (fun _ _ e => e.elim))
      clear hb5 HL4 HB4 HK4 c0 c1 c2 c3 c4 c5
      go_wp2_with fail
      go_roundw
      case rel => exact ⟨i + 1, off + U, by omega, rfl, HO2, hlt, HL5, HB5, HK5⟩
      case measure =>
        simp [intOf]; omega
    · have hic : i = c := by omega
      have heq : off = Sz := by
        have h2 := HM.out
        have h3 := HO.out
        rw [hic] at h3
        omega
      have jlt : ¬ (off : Int) < (Sz : Int) := by omega
      have HBc : Hid (Bw wr B G n base (Q c)) := by rw [← hic]; exact HB
      clear HO HB heq hic HST HSE
      go_wp2_with fail
      refine (HSz.out _).mono ?_
      rintro e w2 ⟨rfl, hb2⟩
      have HB2 := Lib.hid (HBc.out.below hb2)
      have HK2 := Lib.hid (HK.out.trans (Keeps.of_below (S := fun _ => False) hb2) (fun _ _ e => e.elim))
      clear hb2 HL HBc HK c0 c1 c2 c3 c4 c5
      go_wp2_with fail
      go_end0
      exact ⟨rfl, HB2.out, HK2.out⟩
set_option maxRecDepth 100000 in
theorem rowdn_small {B G n base t : Nat} {s : Bst} {x : L6} (hbig : x.big = false) (hx : aloneF x = 0) (ht : t ≤ x.v) (hc : Cl base s) (hu : Up t s) (hn : (buildU base s (unitsL x)).nx ≤ n) (hN : n ≤ 1024) (hb : base % 4096 = 0) (hl : base + n * 4096 ≤ 4294967296) (hne : B ≠ G) : ∀ i, i < cntU x → ∀ W, Bw W B G n base (buildU base s (unitsN x i)) → Calls Try.prog 47 #[.pointer (some ⟨B, 0, none⟩), .int .u64 ((x.v + i * 4096 : Nat) : Int), .int .i64 2] W fun e w' => e = .returned (.tuple #[]) ∧ Bw w' B G n base (downS base (buildU base s (unitsN x i)) (unitAt x i)) ∧ Keeps (fun k => k = B ∨ k = G) W w' := by
  obtain ⟨z1, z2, z3, z4, z5, z6⟩ := aloneF_zero hx
  obtain ⟨hm, hcn⟩ := cntU_mul hx
  have hU : unitF x = 4096 := by unfold unitF; rw [hbig]; rfl
  intro i hi W hW
  obtain ⟨c, u⟩ := row_good hx ht hc hu i (by omega)
  have hnx : (stepU base (buildU base s (unitsN x i)) (unitAt x i)).nx ≤ n := by
    rw [← buildU_succ]
    refine Nat.le_trans ?_ hn
    have e : unitsL x = unitsN x (i + 1) ++ (List.range (cntU x - (i + 1))).map (fun k => unitAt x (i + 1 + k)) := by
      have h5 : ∀ b, unitsN x (i + 1 + b) = unitsN x (i + 1) ++ (List.range b).map (fun k => unitAt x (i + 1 + k)) := by
        intro b
        induction b with
        | zero => simp
        | succ b ih => rw [← Nat.add_assoc, unitsN_succ, ih, List.range_succ, List.map_append, List.append_assoc]; rfl
      rw [← h5]
      unfold unitsL
      congr 1
      omega
    rw [e, buildU_app]
    exact buildU_nx base _ _
  have hnx2 : (downS base (buildU base s (unitsN x i)) (unitAt x i)).nx ≤ n := by
    unfold stepU at hnx
    rwa [(leafS_rest (s := downS base (buildU base s (unitsN x i)) (unitAt x i)) (u := unitAt x i)).2.2.2.2] at hnx
  have hvu : (unitAt x i).v = x.v + i * 4096 := by show x.v + i * unitF x = _; rw [hU]
  have hdn : downS base (buildU base s (unitsN x i)) (unitAt x i) = step2 base (step1 base (buildU base s (unitsN x i)) (x.v + i * 4096)) (x.v + i * 4096) := by
    unfold downS
    rw [if_neg (show ¬ (unitAt x i).big = true by rw [show (unitAt x i).big = false from hbig]; decide), hvu]
  rw [hdn] at hnx2 ⊢
  rw [hU] at u
  have hlt : (i + 1) * unitF x ≤ cntU x * unitF x := Nat.mul_le_mul_right _ hi
  rw [hm, Nat.add_mul, hU] at hlt
  exact down_small hW c u (Nat.le_refl _) (by omega) hnx2 hN hb hl hne
set_option maxRecDepth 100000 in
theorem rowst_small {B G n base t : Nat} {s : Bst} {x : L6} (hbig : x.big = false) (hx : aloneF x = 0) (ht : t ≤ x.v) (hc : Cl base s) (hu : Up t s) (hn : (buildU base s (unitsL x)).nx ≤ n) (hN : n ≤ 1024) (hb : base % 4096 = 0) (hl : base + n * 4096 ≤ 4294967296) (hne : B ≠ G) : ∀ i, i < cntU x → ∀ W, Bw W B G n base (downS base (buildU base s (unitsN x i)) (unitAt x i)) → Calls Try.prog 48 #[.pointer (some ⟨B, 0, none⟩), .int .u64 ((x.v + i * 4096 : Nat) : Int), .int .i64 2, .agg #[.int .u64 ((x.p + i * 4096 : Nat) : Int), .bool false, .bool false, .bool x.wr, .bool x.ex]] W fun e w' => e = .returned (.tuple #[]) ∧ Bw w' B G n base (buildU base s (unitsN x (i + 1))) ∧ Keeps (fun k => k = G) W w' := by
  obtain ⟨z1, z2, z3, z4, z5, z6⟩ := aloneF_zero hx
  obtain ⟨hm, hcn⟩ := cntU_mul hx
  have hU : unitF x = 4096 := by unfold unitF; rw [hbig]; rfl
  intro i hi W hW
  obtain ⟨c, u⟩ := row_good hx ht hc hu i (by omega)
  have hnx : (buildU base s (unitsN x (i + 1))).nx ≤ n := by
    refine Nat.le_trans ?_ hn
    have h5 : ∀ b, unitsN x (i + 1 + b) = unitsN x (i + 1) ++ (List.range b).map (fun k => unitAt x (i + 1 + k)) := by
      intro b
      induction b with
      | zero => simp
      | succ b ih => rw [← Nat.add_assoc, unitsN_succ, ih, List.range_succ, List.map_append, List.append_assoc]; rfl
    have e : unitsL x = unitsN x (i + 1) ++ (List.range (cntU x - (i + 1))).map (fun k => unitAt x (i + 1 + k)) := by
      rw [← h5]
      unfold unitsL
      congr 1
      omega
    rw [e, buildU_app]
    exact buildU_nx base _ _
  have hvu : (unitAt x i).v = x.v + i * 4096 := by show x.v + i * unitF x = _; rw [hU]
  have hpu : (unitAt x i).p = x.p + i * 4096 := by show x.p + i * unitF x = _; rw [hU]
  have hlt : (i + 1) * unitF x ≤ cntU x * unitF x := Nat.mul_le_mul_right _ hi
  rw [hm, Nat.add_mul, hU] at hlt
  rw [hU] at u z3
  have hb2 : (unitAt x i).big = false := hbig
  have hvlt : (unitAt x i).v < 549755813888 := by rw [hvu]; omega
  have hle : x.v + i * 4096 ≤ (unitAt x i).v := by rw [hvu]; exact Nat.le_refl _
  rw [buildU_succ] at hnx ⊢
  unfold stepU at hnx ⊢
  rw [(leafS_rest (s := downS base (buildU base s (unitsN x i)) (unitAt x i)) (u := unitAt x i)).2.2.2.2] at hnx
  have hset := set_small (u := unitAt x i) hb2 hW ?_ ?_ (by rw [hpu]; omega) (by rw [hpu]; omega) hne
  · rw [hvu, hpu] at hset
    exact hset
  · unfold downS
    rw [if_neg (by rw [hb2]; decide), step2_n1 (t := x.v + i * 4096) (by rw [step1_rest.1]; exact u.u1) hle]
    exact Nat.succ_ne_zero _
  · refine Nat.lt_of_lt_of_le ?_ hnx
    unfold downS
    rw [if_neg (by rw [hb2]; decide)]
    have c2 := (c.step1 hvlt).step2 (step1_n0 (base := base) u hle).symm (by rw [step1_rest.2.2.1]; exact u.L1z hle)
    exact c2.a2_lt (by rw [step2_n1 (t := x.v + i * 4096) (by rw [step1_rest.1]; exact u.u1) hle]; exact Nat.succ_ne_zero _)
set_option maxRecDepth 100000 in
set_option maxHeartbeats 4000000 in
theorem row_small {w : World} {B G n base t : Nat} {s : Bst} {x : L6} (hbig : x.big = false) (hx : aloneF x = 0) (ht : t ≤ x.v) (hw : Bw w B G n base s) (hc : Cl base s) (hu : Up t s) (hn : (buildU base s (unitsL x)).nx ≤ n) (hN : n ≤ 1024) (hb : base % 4096 = 0) (hl : base + n * 4096 ≤ 4294967296) (hne : B ≠ G) : Calls Try.prog 35 #[.pointer (some ⟨B, 0, none⟩), V6 x] w fun e w' => e = .returned (.tuple #[]) ∧ Bw w' B G n base (buildU base s (unitsL x)) ∧ Keeps (fun k => k = B ∨ k = G) w w' := by
  obtain ⟨z1, z2, z3, z4, z5, z6⟩ := aloneF_zero hx
  obtain ⟨hm, hcn⟩ := cntU_mul hx
  have hU : unitF x = 4096 := by unfold unitF; rw [hbig]; rfl
  have HST := Lib.hid (rowdn_small hbig hx ht hc hu hn hN hb hl hne)
  have HSE := Lib.hid (rowst_small hbig hx ht hc hu hn hN hb hl hne)
  have HB0 := Lib.hid hw
  obtain ⟨xv, xp, xn, xb, xw, xe⟩ := x
  simp only at hbig z1 z4 z5
  subst hbig
  obtain ⟨m, rfl⟩ : ∃ m : Nat, xn = (m : Int) := ⟨xn.toNat, by omega⟩
  have z4 : xv + m * 4096 ≤ 549755813888 := z4
  have z5 : xp + m * 4096 ≤ 4294967296 := z5
  rw [hU] at hm
  have hm : cntU ⟨xv, xp, (m : Int), false, xw, xe⟩ * 4096 = m * 4096 := hm
  obtain ⟨c, hcc⟩ : ∃ c, cntU ⟨xv, xp, (m : Int), false, xw, xe⟩ = c := ⟨_, rfl⟩
  obtain ⟨Q, hQ⟩ : ∃ Q : Nat → Bst, ∀ i : Nat, buildU base s (unitsN ⟨xv, xp, (m : Int), false, xw, xe⟩ i) = Q i := ⟨fun i => buildU base s (unitsN ⟨xv, xp, (m : Int), false, xw, xe⟩ i), fun _ => rfl⟩
  obtain ⟨Q', hQ'⟩ : ∃ Q' : Nat → Bst, ∀ i : Nat, downS base (buildU base s (unitsN ⟨xv, xp, (m : Int), false, xw, xe⟩ i)) (unitAt ⟨xv, xp, (m : Int), false, xw, xe⟩ i) = Q' i := ⟨fun i => downS base (buildU base s (unitsN ⟨xv, xp, (m : Int), false, xw, xe⟩ i)) (unitAt ⟨xv, xp, (m : Int), false, xw, xe⟩ i), fun _ => rfl⟩
  have HST : Hid (∀ i, i < c → ∀ W, Bw W B G n base (Q i) → Calls Try.prog 47 #[.pointer (some ⟨B, 0, none⟩), .int .u64 ((xv + i * 4096 : Nat) : Int), .int .i64 2] W fun e w' => e = .returned (.tuple #[]) ∧ Bw w' B G n base (Q' i) ∧ Keeps (fun k => k = B ∨ k = G) W w') := fun i hi W hW => by
    have h5 := HST.out i (by rw [hcc]; exact hi) W (by rw [hQ]; exact hW)
    rw [hQ'] at h5
    exact h5
  have HSE : Hid (∀ i, i < c → ∀ W, Bw W B G n base (Q' i) → Calls Try.prog 48 #[.pointer (some ⟨B, 0, none⟩), .int .u64 ((xv + i * 4096 : Nat) : Int), .int .i64 2, .agg #[.int .u64 ((xp + i * 4096 : Nat) : Int), .bool false, .bool false, .bool xw, .bool xe]] W fun e w' => e = .returned (.tuple #[]) ∧ Bw w' B G n base (Q (i + 1)) ∧ Keeps (fun k => k = G) W w') := fun i hi W hW => by
    have h5 := HSE.out i (by rw [hcc]; exact hi) W (by rw [hQ']; exact hW)
    rw [hQ] at h5
    exact h5
  have HBw0 : Hid (Bw w B G n base (Q 0)) := by rw [← hQ 0]; exact hw
  have hgoal : buildU base s (unitsL ⟨xv, xp, (m : Int), false, xw, xe⟩) = Q c := by rw [← hQ c, ← hcc]; rfl
  rw [hgoal]
  rw [hcc] at hm hcn
  have HL : Hid (LfAt (w.alloc (.cells #[.int .u64 (xv : Int), .int .u64 (xp : Int), .int .i64 (m : Int), .bool false, .bool xw, .bool xe] 34)) w.heap.size ⟨xv, xp, (m : Int), false, xw, xe⟩) := heap_alloc_new w _
  have HBl : Hid (Below w.heap.size w (w.alloc (.cells #[.int .u64 (xv : Int), .int .u64 (xp : Int), .int .i64 (m : Int), .bool false, .bool xw, .bool xe] 34))) := (Below.refl _ _).alloc (Nat.le_refl _) _
  have HSz : Hid (∀ W, Calls Try.prog 45 #[.agg #[.int .u64 (xv : Int), .int .u64 (xp : Int), .int .i64 (m : Int), .bool false, .bool xw, .bool xe]] W fun e w' => e = .returned (.int .u64 ((m * 4096 : Nat) : Int)) ∧ Below W.heap.size W w') := fun W => size_any (x := ⟨xv, xp, (m : Int), false, xw, xe⟩) (m := m) rfl (by omega) W
  have HLv : Hid (∀ W, Calls Try.prog 40 #[.bool false] W fun e w' => e = .returned (.int .i64 2) ∧ w' = W) := fun W => leafLevel_any false W
  obtain ⟨Sz, hSz⟩ : ∃ Sz, m * 4096 = Sz := ⟨_, rfl⟩
  rw [hSz] at HSz hm z4 z5
  obtain ⟨U, hUU⟩ : ∃ U : Nat, (4096 : Nat) = U := ⟨_, rfl⟩
  have hU1 : 1 ≤ U ∧ U ≤ 2097152 := by omega
  have HUn : Hid (∀ W, Calls Try.prog 46 #[.agg #[.int .u64 (xv : Int), .int .u64 (xp : Int), .int .i64 (m : Int), .bool false, .bool xw, .bool xe]] W fun e w' => e = .returned (.int .u64 ((U : Nat) : Int)) ∧ Below W.heap.size W w') := fun W => by rw [← hUU]; exact unit_any ⟨xv, xp, (m : Int), false, xw, xe⟩ W
  rw [hUU] at HST HSE hm
  clear hUU
  have hXB : w.heap.size ≠ B := Nat.ne_of_gt hw.ltB
  have hXG : w.heap.size ≠ G := Nat.ne_of_gt hw.ltG
  have HM := Lib.hid hm
  clear hgoal hQ hQ' hcc hw hc hu hn hx ht z1 z2 z3 z6 hU hSz HB0 hm hb hl hN
  unfold V6
  simp only
  go_enter Try.func35, Try.ntmps35
  go_wp2_with fail
  refine (HLv.out _).mono ?_
  rintro e w1 ⟨rfl, rfl⟩
  have HB1 := Lib.hid (HBw0.out.below HBl.out)
  have HK1 := Lib.hid (Keeps.of_below (S := fun q => q = B ∨ q = G) HBl.out)
  generalize (w.alloc (.cells #[.int .u64 (xv : Int), .int .u64 (xp : Int), .int .i64 (m : Int), .bool false, .bool xw, .bool xe] 34)) = w1 at *
  clear HBl HBw0
  generalize w.heap.size = X at *
  obtain ⟨c0, c1, c2, c3, c4, c5⟩ : w1.cell? ⟨X, 0, none⟩ = some (.int .u64 (xv : Int)) ∧ w1.cell? ⟨X, 1, none⟩ = some (.int .u64 (xp : Int)) ∧ w1.cell? ⟨X, 2, none⟩ = some (.int .i64 (m : Int)) ∧ w1.cell? ⟨X, 3, none⟩ = some (.bool false) ∧ w1.cell? ⟨X, 4, none⟩ = some (.bool xw) ∧ w1.cell? ⟨X, 5, none⟩ = some (.bool xe) := HL.out.cells
  go_wp2_with fail
  clear c0 c1 c2 c3 c4 c5
  go_loopw [5] (fun ov wr => ∃ (i off : Nat), i ≤ c ∧ ov = .int .u64 (off : Int) ∧ Hid (off = i * U) ∧ off ≤ Sz ∧ Hid (LfAt wr X ⟨xv, xp, (m : Int), false, xw, xe⟩) ∧ Hid (Bw wr B G n base (Q i)) ∧ Hid (Keeps (fun k => k = B ∨ k = G) w wr)) (fun ov _ => Sz - (intOf ov).toNat)
  case atStart => exact ⟨0, 0, by omega, rfl, Lib.hid (Nat.zero_mul _).symm, by omega, HL, HB1, HK1⟩
  case round =>
    clear HL HB1 HK1
    obtain ⟨i, off, hi, rfl, HO, hoS, HL, HB, HK⟩ := hrel
    obtain ⟨c0, c1, c2, c3, c4, c5⟩ : wr.cell? ⟨X, 0, none⟩ = some (.int .u64 (xv : Int)) ∧ wr.cell? ⟨X, 1, none⟩ = some (.int .u64 (xp : Int)) ∧ wr.cell? ⟨X, 2, none⟩ = some (.int .i64 (m : Int)) ∧ wr.cell? ⟨X, 3, none⟩ = some (.bool false) ∧ wr.cell? ⟨X, 4, none⟩ = some (.bool xw) ∧ wr.cell? ⟨X, 5, none⟩ = some (.bool xe) := HL.out.cells
    by_cases hin : i < c
    · have hlt : off + U ≤ Sz := by
        have h1 : (i + 1) * U ≤ c * U := Nat.mul_le_mul_right _ hin
        have h2 := HM.out
        have h3 := HO.out
        rw [Nat.add_mul, Nat.one_mul] at h1
        omega
      have jlt : (off : Int) < (Sz : Int) := by omega
      have HD : Hid (∀ W, Bw W B G n base (Q i) → Calls Try.prog 47 #[.pointer (some ⟨B, 0, none⟩), .int .u64 ((xv + off : Nat) : Int), .int .i64 2] W fun e w' => e = .returned (.tuple #[]) ∧ Bw w' B G n base (Q' i) ∧ Keeps (fun k => k = B ∨ k = G) W w') := by rw [HO.out]; exact HST.out i hin
      have HE : Hid (∀ W, Bw W B G n base (Q' i) → Calls Try.prog 48 #[.pointer (some ⟨B, 0, none⟩), .int .u64 ((xv + off : Nat) : Int), .int .i64 2, .agg #[.int .u64 ((xp + off : Nat) : Int), .bool false, .bool false, .bool xw, .bool xe]] W fun e w' => e = .returned (.tuple #[]) ∧ Bw w' B G n base (Q (i + 1)) ∧ Keeps (fun k => k = G) W w') := by rw [HO.out]; exact HSE.out i hin
      have wv : IntKind.u64.wrap ((xv : Int) + (off : Int)) = ((xv + off : Nat) : Int) := by rw [IntKind.wrap_u64]; omega
      have wp : IntKind.u64.wrap ((xp : Int) + (off : Int)) = ((xp + off : Nat) : Int) := by rw [IntKind.wrap_u64]; omega
      have wo : IntKind.u64.wrap ((off : Int) + (U : Int)) = ((off + U : Nat) : Int) := by rw [IntKind.wrap_u64]; omega
      have HO2 : Hid (off + U = (i + 1) * U) := Lib.hid (by rw [HO.out, Nat.add_mul, Nat.one_mul])
      obtain ⟨av, hav⟩ : ∃ av, xv + off = av := ⟨_, rfl⟩
      obtain ⟨ap, hap⟩ : ∃ ap, xp + off = ap := ⟨_, rfl⟩
      rw [hav] at HD HE wv
      rw [hap] at HE wp
      clear hav hap HO HST HSE
      go_wp2_with fail
      refine (HSz.out _).mono ?_
      rintro e w2 ⟨rfl, hb2⟩
      have HL2 := Lib.hid (HL.out.below hb2)
      have HB2 := Lib.hid (HB.out.below hb2)
      have HK2 := Lib.hid (HK.out.trans (Keeps.of_below (S := fun _ => False) hb2) (fun _ _ e => e.elim))
      clear hb2 HL HB HK c0 c1 c2 c3 c4 c5
      obtain ⟨c0, c1, c2, c3, c4, c5⟩ : w2.cell? ⟨X, 0, none⟩ = some (.int .u64 (xv : Int)) ∧ w2.cell? ⟨X, 1, none⟩ = some (.int .u64 (xp : Int)) ∧ w2.cell? ⟨X, 2, none⟩ = some (.int .i64 (m : Int)) ∧ w2.cell? ⟨X, 3, none⟩ = some (.bool false) ∧ w2.cell? ⟨X, 4, none⟩ = some (.bool xw) ∧ w2.cell? ⟨X, 5, none⟩ = some (.bool xe) := HL2.out.cells
      go_wp2_with fail
      refine (HD.out _ HB2.out).mono ?_
      rintro e w3 ⟨rfl, hb3, hk3⟩
      have HL3 := Lib.hid (HL2.out.keeps hk3 (fun e => e.elim hXB hXG))
      have HB3 := Lib.hid hb3
      have HK3 := Lib.hid (HK2.out.trans hk3 (fun _ _ e => e))
      clear hb3 hk3 HL2 HB2 HK2 c0 c1 c2 c3 c4 c5
      obtain ⟨c0, c1, c2, c3, c4, c5⟩ : w3.cell? ⟨X, 0, none⟩ = some (.int .u64 (xv : Int)) ∧ w3.cell? ⟨X, 1, none⟩ = some (.int .u64 (xp : Int)) ∧ w3.cell? ⟨X, 2, none⟩ = some (.int .i64 (m : Int)) ∧ w3.cell? ⟨X, 3, none⟩ = some (.bool false) ∧ w3.cell? ⟨X, 4, none⟩ = some (.bool xw) ∧ w3.cell? ⟨X, 5, none⟩ = some (.bool xe) := HL3.out.cells
      go_wp2_with fail
      refine (HE.out _ HB3.out).mono ?_
      rintro e w4 ⟨rfl, hb4, hk4⟩
      have HL4 := Lib.hid (HL3.out.keeps hk4 hXG)
      have HB4 := Lib.hid hb4
      have HK4 := Lib.hid (HK3.out.trans hk4 (fun _ _ e => Or.inr e))
      clear hb4 hk4 HL3 HB3 HK3 c0 c1 c2 c3 c4 c5
      obtain ⟨c0, c1, c2, c3, c4, c5⟩ : w4.cell? ⟨X, 0, none⟩ = some (.int .u64 (xv : Int)) ∧ w4.cell? ⟨X, 1, none⟩ = some (.int .u64 (xp : Int)) ∧ w4.cell? ⟨X, 2, none⟩ = some (.int .i64 (m : Int)) ∧ w4.cell? ⟨X, 3, none⟩ = some (.bool false) ∧ w4.cell? ⟨X, 4, none⟩ = some (.bool xw) ∧ w4.cell? ⟨X, 5, none⟩ = some (.bool xe) := HL4.out.cells
      go_wp2_with fail
      refine (HUn.out _).mono ?_
      rintro e w5 ⟨rfl, hb5⟩
      have HL5 := Lib.hid (HL4.out.below hb5)
      have HB5 := Lib.hid (HB4.out.below hb5)
      have HK5 := Lib.hid (HK4.out.trans (Keeps.of_below (S := fun _ => False) hb5) (fun _ _ e => e.elim))
      clear hb5 HL4 HB4 HK4 c0 c1 c2 c3 c4 c5
      go_wp2_with fail
      go_roundw
      case rel => exact ⟨i + 1, off + U, by omega, rfl, HO2, hlt, HL5, HB5, HK5⟩
      case measure =>
        simp [intOf]; omega
    · have hic : i = c := by omega
      have heq : off = Sz := by
        have h2 := HM.out
        have h3 := HO.out
        rw [hic] at h3
        omega
      have jlt : ¬ (off : Int) < (Sz : Int) := by omega
      have HBc : Hid (Bw wr B G n base (Q c)) := by rw [← hic]; exact HB
      clear HO HB heq hic HST HSE
      go_wp2_with fail
      refine (HSz.out _).mono ?_
      rintro e w2 ⟨rfl, hb2⟩
      have HB2 := Lib.hid (HBc.out.below hb2)
      have HK2 := Lib.hid (HK.out.trans (Keeps.of_below (S := fun _ => False) hb2) (fun _ _ e => e.elim))
      clear hb2 HL HBc HK c0 c1 c2 c3 c4 c5
      go_wp2_with fail
      go_end0
      exact ⟨rfl, HB2.out, HK2.out⟩
theorem row_any {w : World} {B G n base t : Nat} {s : Bst} {x : L6} (hx : aloneF x = 0) (ht : t ≤ x.v) (hw : Bw w B G n base s) (hc : Cl base s) (hu : Up t s) (hn : (buildU base s (unitsL x)).nx ≤ n) (hN : n ≤ 1024) (hb : base % 4096 = 0) (hl : base + n * 4096 ≤ 4294967296) (hne : B ≠ G) : Calls Try.prog 35 #[.pointer (some ⟨B, 0, none⟩), V6 x] w fun e w' => e = .returned (.tuple #[]) ∧ Bw w' B G n base (buildU base s (unitsL x)) ∧ Keeps (fun k => k = B ∨ k = G) w w' := by
  cases hb2 : x.big with
  | true => exact row_big hb2 hx ht hw hc hu hn hN hb hl hne
  | false => exact row_small hb2 hx ht hw hc hu hn hN hb hl hne
end Go.Proofs.Ytgjamnhepbblhaa
