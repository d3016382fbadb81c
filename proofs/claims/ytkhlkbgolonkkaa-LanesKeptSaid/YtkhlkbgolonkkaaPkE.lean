import Derived.Test.YtkhlkbgolonkkaaLnSum
import Derived.Test.YtkhlkbgolonkkaaLnHpO
import Derived.Test.YtkhlkbgolonkkaaLnRuM
import Derived.Test.YtkhlkbgolonkkaaLnRow
/- Lanes: earliest deadline first, tick by tick (plain mathematics). Own work. -/
namespace Go.Proofs.Ytkhlkbgolonkkaa
set_option linter.unusedVariables false
def bN (xs : List R4) (i : Nat) : Nat := match xs[i]? with | some r => r.b | none => 0
def pN (xs : List R4) (i : Nat) : Nat := match xs[i]? with | some r => r.p | none => 1
theorem bN_eq (xs : List R4) (i : Nat) (h : i < xs.length) : bN xs i = xs[i].b := by unfold bN; rw [List.getElem?_eq_getElem h]
theorem pN_eq (xs : List R4) (i : Nat) (h : i < xs.length) : pN xs i = xs[i].p := by unfold pN; rw [List.getElem?_eq_getElem h]
/-- the name of who runs -/
noncomputable def subj (xs : List R4) : Option Nat → ByteArray
  | none => sN
  | some i => match xs[i]? with | some r => r.s | none => sN
/-- when a need's period ends -/
def dueT (xs : List R4) (t i : Nat) : Nat := (t / pN xs i + 1) * pN xs i
/-- of the first k the one with something left that is due first -/
def bestI (L D : Nat → Nat) : Nat → Option Nat
  | 0 => none
  | k + 1 => match bestI L D k with
    | none => if 0 < L k then some k else none
    | some j => if 0 < L k ∧ D k < D j then some k else some j
theorem bestI_spec (L D : Nat → Nat) : ∀ k, (bestI L D k = none → ∀ i, i < k → L i = 0) ∧ ∀ j, bestI L D k = some j → j < k ∧ 0 < L j ∧ ∀ i, i < k → 0 < L i → D j < D i ∨ (D j = D i ∧ j ≤ i)
  | 0 => ⟨fun _ i h => by omega, fun j h => by cases h⟩
  | k + 1 => by
    obtain ⟨h1, h2⟩ := bestI_spec L D k
    unfold bestI
    cases hb : bestI L D k with
    | none =>
      have h3 := h1 hb
      simp only
      by_cases hl : 0 < L k
      · rw [if_pos hl]
        refine ⟨(fun e => by cases e), fun j e => ?_⟩
        cases e
        refine ⟨by omega, hl, fun i hi h0 => ?_⟩
        by_cases hik : i = k
        · subst hik; exact .inr ⟨rfl, Nat.le_refl _⟩
        · have := h3 i (by omega); omega
      · rw [if_neg hl]
        refine ⟨fun _ i hi => ?_, fun j e => by cases e⟩
        by_cases hik : i = k
        · subst hik; omega
        · exact h3 i (by omega)
    | some j0 =>
      obtain ⟨a1, a2, a3⟩ := h2 j0 hb
      simp only
      by_cases hl : 0 < L k ∧ D k < D j0
      · rw [if_pos hl]
        refine ⟨(fun e => by cases e), fun j e => ?_⟩
        cases e
        refine ⟨by omega, hl.1, fun i hi h0 => ?_⟩
        by_cases hik : i = k
        · subst hik; exact .inr ⟨rfl, Nat.le_refl _⟩
        · have := a3 i (by omega) h0; omega
      · rw [if_neg hl]
        refine ⟨(fun e => by cases e), fun j e => ?_⟩
        cases e
        refine ⟨by omega, a2, fun i hi h0 => ?_⟩
        by_cases hik : i = k
        · subst hik; omega
        · exact a3 i (by omega) h0
theorem best_is {L D : Nat → Nat} {k j : Nat} (hj : j < k) (hl : 0 < L j) (h : ∀ i, i < k → 0 < L i → D j < D i ∨ (D j = D i ∧ j ≤ i)) : bestI L D k = some j := by
  obtain ⟨h1, h2⟩ := bestI_spec L D k
  cases hb : bestI L D k with
  | none => have := h1 hb j hj; omega
  | some i =>
    obtain ⟨a1, a2, a3⟩ := h2 i hb
    have b1 := a3 j hj hl
    have b2 := h i a1 a2
    congr 1
    omega
theorem best_none {L D : Nat → Nat} {k : Nat} (h : ∀ i, i < k → L i = 0) : bestI L D k = none := by
  obtain ⟨h1, h2⟩ := bestI_spec L D k
  cases hb : bestI L D k with
  | none => rfl
  | some i =>
    obtain ⟨a1, a2, a3⟩ := h2 i hb
    have := h i a1
    omega
theorem bestI_congr {L D L' D' : Nat → Nat} : ∀ k, (∀ i, i < k → L i = L' i ∧ D i = D' i) → bestI L D k = bestI L' D' k
  | 0, _ => rfl
  | k + 1, h => by
    have h1 := bestI_congr k fun i hi => h i (by omega)
    have h2 := h k (by omega)
    unfold bestI
    rw [h1, h2.1, h2.2]
    cases hb : bestI L' D' k with
    | none => rfl
    | some j =>
      have h3 := ((bestI_spec L' D' k).2 j hb).1
      simp only
      rw [(h j (by omega)).2]
/-- what is left of each need at a tick -/
def Lr (xs : List R4) : Nat → (Nat → Nat)
  | 0 => fun i => bN xs i
  | t + 1 => fun i => if (t + 1) % pN xs i = 0 then bN xs i else Lr xs t i - (if bestI (Lr xs t) (dueT xs t) xs.length = some i then 1 else 0)
/-- who runs at a tick -/
def bestT (xs : List R4) (t : Nat) : Option Nat := bestI (Lr xs t) (dueT xs t) xs.length
/-- a stretch of ticks in which no job is released or done -/
theorem lr_stretch {xs : List R4} {e nx : Nat} {o : Option Nat} {t : Nat} (hp : ∀ i, i < xs.length → 1 ≤ pN xs i) (hd : ∀ i, i < xs.length → ∀ z, z % pN xs i = 0 → e < z → nx ≤ z) (hnx : e + t ≤ nx)
    (hb : ∀ s, s < t → bestI (fun i => Lr xs e i - (if o = some i then s else 0)) (dueT xs e) xs.length = o) : ∀ s, s < t → (∀ i, i < xs.length → Lr xs (e + s) i = Lr xs e i - (if o = some i then s else 0)) ∧ bestT xs (e + s) = o := by
  have hdue : ∀ s, s < t → ∀ i, i < xs.length → dueT xs (e + s) i = dueT xs e i := by
    intro s hs i hi
    have hp1 := hp i hi
    have h1 := hd i hi ((e / pN xs i + 1) * pN xs i) (by simp) (by
      have := Nat.div_add_mod e (pN xs i)
      have h2 := Nat.mod_lt e (show 0 < pN xs i by omega)
      rw [Nat.add_mul, Nat.one_mul, Nat.mul_comm (e / pN xs i)]
      omega)
    unfold dueT
    congr 2
    refine Nat.le_antisymm ?_ (Nat.div_le_div_right (by omega))
    refine Nat.le_of_lt_succ ?_
    rw [Nat.div_lt_iff_lt_mul (by omega)]
    show e + s < (e / pN xs i + 1) * pN xs i
    omega
  intro s
  induction s with
  | zero =>
    intro h0
    refine ⟨fun i hi => by rw [Nat.add_zero]; split <;> omega, ?_⟩
    have h1 := hb 0 h0
    rw [Nat.add_zero, bestT, ← h1]
    exact bestI_congr _ fun i hi => ⟨by split <;> omega, rfl⟩
  | succ s ih =>
    intro hs
    obtain ⟨i1, i2⟩ := ih (by omega)
    have h3 : ∀ i, i < xs.length → Lr xs (e + (s + 1)) i = Lr xs e i - (if o = some i then s + 1 else 0) := by
      intro i hi
      have hr : ¬ (e + s + 1) % pN xs i = 0 := fun h => by
        have := hd i hi _ h (by omega)
        omega
      show (if (e + s + 1) % pN xs i = 0 then bN xs i else Lr xs (e + s) i - (if bestT xs (e + s) = some i then 1 else 0)) = _
      rw [if_neg hr, i2, i1 i hi]
      split <;> omega
    refine ⟨h3, ?_⟩
    rw [bestT, ← hb (s + 1) hs]
    exact bestI_congr _ fun i hi => ⟨h3 i hi, hdue (s + 1) hs i hi⟩
theorem lr_after {xs : List R4} {e nx : Nat} {o : Option Nat} {t : Nat} (hp : ∀ i, i < xs.length → 1 ≤ pN xs i) (hd : ∀ i, i < xs.length → ∀ z, z % pN xs i = 0 → e < z → nx ≤ z) (hnx : e + t ≤ nx) (ht : 1 ≤ t)
    (hb : ∀ s, s < t → bestI (fun i => Lr xs e i - (if o = some i then s else 0)) (dueT xs e) xs.length = o) : ∀ i, i < xs.length → Lr xs (e + t) i = if (e + t) % pN xs i = 0 then bN xs i else Lr xs e i - (if o = some i then t else 0) := by
  intro i hi
  obtain ⟨s, rfl⟩ : ∃ s, t = s + 1 := ⟨t - 1, by omega⟩
  obtain ⟨i1, i2⟩ := lr_stretch hp hd hnx hb s (by omega)
  show (if (e + s + 1) % pN xs i = 0 then bN xs i else Lr xs (e + s) i - (if bestT xs (e + s) = some i then 1 else 0)) = _
  rw [i2, i1 i hi, Nat.add_assoc]
  split
  · rfl
  · split <;> omega
end Go.Proofs.Ytkhlkbgolonkkaa
/- Lanes: what byDeadline makes is earliest deadline first, tick by tick (plain mathematics). Own work. -/
namespace Go.Proofs.Ytkhlkbgolonkkaa
set_option linter.unusedVariables false
def dueBy (D : Int) (x : J4) : Bool := decide (x.d ≤ D)
def ofN (i : Int) (e : Int) (x : J4) : Bool := decide (x.n = i ∧ x.r ≤ e)
structure EdJ (m : Nat) (xs : List R4) (ws cs : List J4) (rs : List S3) : Prop where
  heap : HeapN ws.length ws
  par : ∃ ds, (ds ++ cs).Perm (allJ m 0 xs) ∧ ∀ x ∈ ds, x.r ≤ endF rs
  dem : ∀ D, endF rs ≤ D → sm (dueBy D) (ws ++ cs) ≤ D - endF rs
  shape : ∀ x ∈ ws, x.r ≤ endF rs ∧ ∃ (j k : Nat) (h : j < xs.length), x.n = (j : Int) ∧ x.r = ((k * xs[j].p : Nat) : Int) ∧ x.d = ((k * xs[j].p + xs[j].p : Nat) : Int)
  tick : endF rs < (m : Int) → ∀ i, i < xs.length → sm (ofN (i : Int) (endF rs)) (ws ++ cs) = (Lr xs (endF rs).toNat i : Int)
  gd : Gd 0 none rs
  who : ∀ t : Nat, (t : Int) < endF rs → (findS (t : Int) rs).1 = subj xs (bestT xs t)
  met : ∀ (i : Nat) (hi : i < xs.length) (z : Nat), 0 < z → (z : Int) ≤ endF rs → z % xs[i].p = 0 → Lr xs (z - 1) i = if bestT xs (z - 1) = some i then 1 else 0
/-- jobs that come are jobs of the needs -/
theorem EdJ.cs_all {m : Nat} {xs : List R4} {ws cs : List J4} {rs : List S3} (h : EdJ m xs ws cs rs) : ∀ x ∈ cs, x ∈ allJ m 0 xs := by
  obtain ⟨ds, hp, _⟩ := h.par
  exact fun x hx => hp.mem_iff.1 (List.mem_append_right _ hx)
theorem allJ_pos {m : Nat} {xs : List R4} {k : Nat} : ∀ x ∈ allJ m k xs, 0 ≤ x.l := by
  intro x hx
  obtain ⟨j, q, hj, _, e⟩ := allJ_mem m xs k x hx
  rw [e]
  exact Int.natCast_nonneg _
theorem EdJ.static {m : Nat} {xs : List R4} {ws cs : List J4} {rs : List S3} (h : EdJ m xs ws cs rs) (hx : NeedOk m xs) (hw : wantN m xs ≤ m) (hm : 1 ≤ m) {s D : Int} (hs : 0 ≤ s) (hD : s ≤ D) : sm (inW s D) cs ≤ D - s := by
  obtain ⟨ds, hp, _⟩ := h.par
  have h1 := want_le hx hw hm hs hD
  rw [← sm_perm _ hp, sm_append] at h1
  have h2 := sm_nonneg (inW s D) ds fun x hxx => allJ_pos x (hp.mem_iff.1 (List.mem_append_left _ hxx))
  omega
theorem EdJ.at {m : Nat} {xs : List R4} {ws cs : List J4} {rs : List S3} (h : EdJ m xs ws cs rs) (hx : NeedOk m xs) {s : Nat} (hs : endF rs < (s : Int)) {i : Nat} (hi : i < xs.length) : sm (isAt (i : Int) (s : Int)) cs = if s % xs[i].p = 0 ∧ s < m then (xs[i].b : Int) else 0 := by
  obtain ⟨ds, hp, hr⟩ := h.par
  have h1 := sm_allJ_at s xs 0 i hi hx
  rw [Nat.zero_add, ← sm_perm _ hp, sm_append, sm_zero _ ds fun x hxx => ?_] at h1
  · omega
  · rw [isAt, decide_eq_false_iff_not]
    rintro ⟨_, e⟩
    have := hr x hxx
    omega
theorem EdJ.mult {m : Nat} {xs : List R4} {ws cs : List J4} {rs : List S3} (h : EdJ m xs ws cs rs) (hx : NeedOk m xs) (hn2 : nextF m cs ≤ (m : Int)) (hn3 : ∀ x ∈ cs, nextF m cs ≤ x.r) {i : Nat} (hi : i < xs.length) {z : Nat} (hz : z % xs[i].p = 0) (he : endF rs < (z : Int)) : nextF m cs ≤ (z : Int) := by
  by_cases hzm : z < m
  · have h1 := h.at hx he hi
    have h2 := hx _ (List.getElem_mem hi)
    rw [if_pos ⟨hz, hzm⟩] at h1
    obtain ⟨x, hxx, hf⟩ := sm_some _ cs (by rw [h1]; omega)
    rw [isAt, decide_eq_true_eq] at hf
    have := hn3 x hxx
    omega
  · omega
/-- time goes on -/
theorem ed_adv {m : Nat} {xs : List R4} {ws ws' cs : List J4} {rs rs' : List S3} {t : Int} {o : Option Nat} (hx : NeedOk m xs) (I : EdI m xs ws cs rs) (J : EdJ m xs ws cs rs) (I' : EdI m xs ws' cs rs') (hd : dueN (endF rs) cs) (hlt : endF rs < (m : Int)) (ht1 : 1 ≤ t) (ht2 : endF rs + t ≤ nextF m cs) (hrs : rs' = adds rs (subj xs o) t) (hheap : HeapN ws'.length ws')
    (hsm : ∀ (i : Nat) (e : Int), endF rs ≤ e → sm (ofN (i : Int) e) ws' = sm (ofN (i : Int) e) ws - (if o = some i then t else 0)) (hmem : ∀ y ∈ ws', ∃ z ∈ ws, y.n = z.n ∧ y.r = z.r ∧ y.d = z.d)
    (hdem : ∀ D, endF rs + t ≤ D → sm (dueBy D) (ws' ++ cs) ≤ D - (endF rs + t)) (hbest : ∀ s : Nat, (s : Int) < t → bestI (fun i => Lr xs (endF rs).toNat i - (if o = some i then s else 0)) (dueT xs (endF rs).toNat) xs.length = o) (hnn : ∀ i, o = some i → i < xs.length ∧ t ≤ (Lr xs (endF rs).toNat i : Int)) : EdJ m xs ws' cs rs' := by
  obtain ⟨n1, n2, n3⟩ := nextF_gt I hd hlt
  have ee : endF rs' = endF rs + t := by rw [hrs, adds_end]
  obtain ⟨E, hE⟩ : ∃ E : Nat, endF rs = (E : Int) := ⟨(endF rs).toNat, by have := I.e0; omega⟩
  obtain ⟨T, hT⟩ : ∃ T : Nat, t = (T : Int) := ⟨t.toNat, by omega⟩
  obtain ⟨NX, hNX⟩ : ∃ NX : Nat, nextF m cs = (NX : Int) := ⟨(nextF m cs).toNat, by omega⟩
  have hE2 : (endF rs).toNat = E := by omega
  rw [hE2] at hbest hnn
  have hE3 : (endF rs').toNat = E + T := by omega
  have hp : ∀ i, i < xs.length → 1 ≤ pN xs i := fun i hi => by
    rw [pN_eq xs i hi]
    have := hx _ (List.getElem_mem hi)
    omega
  have hmul : ∀ i, i < xs.length → ∀ z, z % pN xs i = 0 → E < z → NX ≤ z := fun i hi z hz hez => by
    rw [pN_eq xs i hi] at hz
    have := J.mult hx n2 n3 hi hz (by omega)
    omega
  have hb : ∀ s, s < T → bestI (fun i => Lr xs E i - (if o = some i then s else 0)) (dueT xs E) xs.length = o := fun s hs => hbest s (by omega)
  have hg := adds_gd (s := subj xs o) (n := t) J.gd (by omega)
  rw [← hrs] at hg
  have k12 : ∀ i (hi : i < xs.length), sm (ofN (i : Int) (endF rs')) ws' = (Lr xs E i : Int) - (if o = some i then t else 0) := by
    intro i hi
    have k1 : sm (ofN (i : Int) (endF rs')) ws = (Lr xs E i : Int) := by
      have h1 := J.tick hlt i hi
      rw [hE2, sm_append, sm_zero _ cs fun x hxx => ?_] at h1
      · rw [← Int.add_zero (sm _ ws), ← h1]
        congr 1
        refine sm_congr _ _ ws fun x hxx => ?_
        have := (J.shape x hxx).1
        unfold ofN
        congr 1
        apply propext
        constructor
        · rintro ⟨a, b⟩; exact ⟨a, by omega⟩
        · rintro ⟨a, b⟩; exact ⟨a, by omega⟩
      · have := n3 x hxx
        rw [ofN, decide_eq_false_iff_not]
        rintro ⟨_, e⟩
        omega
    have k2 := hsm i (endF rs') (by omega)
    rw [k1] at k2
    exact k2
  have hz : ∀ i (hi : i < xs.length), (E + T) % xs[i].p = 0 → sm (ofN (i : Int) (endF rs')) ws' = 0 := by
    intro i hi hmod
    refine Classical.byContradiction fun hne => ?_
    obtain ⟨y, hy, hf⟩ := sm_some _ ws' hne
    rw [ofN, decide_eq_true_eq] at hf
    obtain ⟨z, hz, e1, e2, e3⟩ := hmem y hy
    obtain ⟨h1, j, k, hj, h2, h3, h4⟩ := J.shape z hz
    have hji : j = i := by omega
    subst hji
    obtain ⟨c, hc⟩ := Nat.dvd_of_mod_eq_zero hmod
    have hkc : k < c := by
      refine Nat.lt_of_mul_lt_mul_right (a := xs[j].p) ?_
      rw [Nat.mul_comm c, ← hc]
      omega
    have hkc2 : (k + 1) * xs[j].p ≤ c * xs[j].p := Nat.mul_le_mul_right _ hkc
    rw [Nat.succ_mul, Nat.mul_comm c, ← hc] at hkc2
    have hdm := hdem (endF rs') (by omega)
    have hpos : ∀ x ∈ ws' ++ cs, 0 ≤ x.l := fun x hxx => by
      have := I'.ok x (List.mem_append.1 hxx)
      omega
    have hle := sm_mem (dueBy (endF rs')) (ws' ++ cs) hpos y (List.mem_append_left _ hy) (by rw [dueBy, decide_eq_true_eq]; omega)
    have := I'.ok y (.inl hy)
    omega
  refine ⟨hheap, ?_, ?_, ?_, ?_, hg.1, ?_, ?_⟩
  · obtain ⟨ds, hpm, hr⟩ := J.par
    exact ⟨ds, hpm, fun x hxx => by have := hr x hxx; omega⟩
  · intro D hD
    rw [ee] at hD ⊢
    exact hdem D hD
  · intro y hy
    obtain ⟨z, hz, e1, e2, e3⟩ := hmem y hy
    obtain ⟨h1, j, k, hj, h2, h3, h4⟩ := J.shape z hz
    exact ⟨by omega, j, k, hj, by omega, by omega, by omega⟩
  · intro hlt' i hi
    rw [hE3]
    have hpi := hx _ (List.getElem_mem hi)
    have hla := lr_after hp hmul (by omega) (by omega) hb i hi
    rw [bN_eq xs i hi, pN_eq xs i hi] at hla
    have k2 := k12 i hi
    have k3 : sm (ofN (i : Int) (endF rs')) cs = if (E + T) % xs[i].p = 0 then (xs[i].b : Int) else 0 := by
      by_cases hen : E + T = NX
      · have h1 := J.at hx (s := NX) (by omega) hi
        have h2 : sm (ofN (i : Int) (endF rs')) cs = sm (isAt (i : Int) (NX : Int)) cs := by
          refine sm_congr _ _ cs fun x hxx => ?_
          have := n3 x hxx
          unfold ofN isAt
          congr 1
          apply propext
          constructor
          · rintro ⟨a, b⟩; exact ⟨a, by omega⟩
          · rintro ⟨a, b⟩; exact ⟨a, by omega⟩
        rw [h2, h1, hen]
        have : NX < m := by omega
        simp [this]
      · rw [sm_zero _ cs fun x hxx => ?_, if_neg fun h => ?_]
        · have := hmul i hi (E + T) (by rw [pN_eq xs i hi]; exact h) (by omega)
          omega
        · have := n3 x hxx
          rw [ofN, decide_eq_false_iff_not]
          rintro ⟨_, e⟩
          omega
    rw [sm_append, k3, hla]
    by_cases hmod : (E + T) % xs[i].p = 0
    · rw [if_pos hmod, if_pos hmod]
      rw [hz i hi hmod]
      omega
    · rw [if_neg hmod, if_neg hmod, k2]
      by_cases ho : o = some i
      · rw [if_pos ho, if_pos ho]
        have := (hnn i ho).2
        omega
      · rw [if_neg ho, if_neg ho]
        omega
  · intro q hq
    rw [ee] at hq
    by_cases hqe : (q : Int) < endF rs
    · rw [hg.2.1 q (by omega) hqe]
      exact J.who q hqe
    · rw [hg.2.2 q (by omega) (by omega)]
      obtain ⟨s, hs⟩ : ∃ s, q = E + s := ⟨q - E, by omega⟩
      subst hs
      rw [(lr_stretch hp hmul (by omega) hb s (by omega)).2]
  · intro i hi z hz0 hze hzm
    by_cases hzE : z ≤ E
    · exact J.met i hi z hz0 (by omega) hzm
    · have h1 := hmul i hi z (by rw [pN_eq xs i hi]; exact hzm) (by omega)
      have hzz : z = E + T := by omega
      rw [hzz] at hzm
      have h2 := k12 i hi
      rw [hz i hi hzm] at h2
      obtain ⟨i1, i2⟩ := lr_stretch hp hmul (by omega) hb (T - 1) (by omega)
      rw [show z - 1 = E + (T - 1) by omega, i2, i1 i hi]
      by_cases ho : o = some i
      · rw [if_pos ho, if_pos ho]
        rw [if_pos ho] at h2
        omega
      · rw [if_neg ho, if_neg ho]
        rw [if_neg ho] at h2
        omega
end Go.Proofs.Ytkhlkbgolonkkaa
/- Lanes: byDeadline meets every deadline; who runs at which tick (plain mathematics). Own work. -/
namespace Go.Proofs.Ytkhlkbgolonkkaa
set_option linter.unusedVariables false
/-- what the first one's run leaves, summed up -/
theorem sm_ran (f : J4 → Bool) {x : J4} {ws : List J4} {t : Int} (hf : ∀ l, f ⟨x.n, x.r, x.d, l⟩ = f x) : sm f (ranF x ws t) = sm f (x :: ws) - (if f x = true then t else 0) := by
  unfold ranF
  split
  · rename_i h
    rw [sm_perm f (popF_perm _ _)]
    simp only [sm]
    split <;> omega
  · simp only [sm, hf]
    split <;> omega
theorem dueT_eq {xs : List R4} {j k e : Nat} (hj : j < xs.length) (hp : 1 ≤ xs[j].p) (h1 : k * xs[j].p ≤ e) (h2 : e < k * xs[j].p + xs[j].p) : dueT xs e j = k * xs[j].p + xs[j].p := by
  unfold dueT
  rw [pN_eq xs j hj]
  have : e / xs[j].p = k := by
    refine Nat.le_antisymm ?_ ?_
    · refine Nat.le_of_lt_succ ?_
      rw [Nat.div_lt_iff_lt_mul (by omega), Nat.succ_mul]
      exact h2
    · rw [Nat.le_div_iff_mul_le (by omega)]
      exact h1
  rw [this, Nat.succ_mul]
theorem subj_some (xs : List R4) (i : Nat) (h : i < xs.length) : subj xs (some i) = xs[i].s := by
  show (match xs[i]? with | some r => r.s | none => sN) = _
  rw [List.getElem?_eq_getElem h]
theorem ed_edf {m : Nat} {xs : List R4} (hx : NeedOk m xs) (hw : wantN m xs ≤ m) (hm : 1 ≤ m) (hc : (allJ m 0 xs).length ≤ 65536) {ws cs : List J4} {rs : List S3} (h : Ed m xs ws cs rs) : EdJ m xs ws cs rs := by
  induction h with
  | start js hp hs =>
    have e0 : endF [] = 0 := rfl
    have hr0 : ∀ x ∈ allJ m 0 xs, 0 ≤ x.r := fun x hxx => by
      obtain ⟨j, k, hj, hk, e⟩ := allJ_mem m xs 0 x hxx
      rw [e]
      exact Int.natCast_nonneg _
    refine ⟨fun i h0 h1 => by simp at h1, ⟨[], hp, (fun x hxx => by cases hxx)⟩, fun D hD => ?_, (fun x hxx => by cases hxx), fun _ i hi => ?_, trivial, (fun t ht => by rw [e0] at ht; omega), fun i hi z hz0 hz1 _ => by rw [e0] at hz1; omega⟩
    · rw [e0] at hD ⊢
      rw [List.nil_append, sm_perm _ hp, sm_congr (dueBy D) (inW 0 D) _ fun x hxx => ?_]
      · exact want_le hx hw hm (Int.le_refl _) hD
      · have := hr0 x hxx
        unfold dueBy inW
        congr 1
        apply propext
        exact ⟨fun a => ⟨this, a⟩, fun a => a.2⟩
    · have h1 := sm_allJ_at 0 xs 0 i hi hx
      rw [e0, List.nil_append, sm_perm _ hp, sm_congr (ofN (i : Int) 0) (isAt ((0 + i : Nat) : Int) ((0 : Nat) : Int)) _ fun x hxx => ?_, h1, if_pos ⟨by simp, by omega⟩]
      · show _ = ((bN xs i : Nat) : Int)
        rw [bN_eq xs i hi]
      · have := hr0 x hxx
        unfold ofN isAt
        congr 1
        apply propext
        constructor
        · rintro ⟨a, b⟩; exact ⟨by omega, by omega⟩
        · rintro ⟨a, b⟩; exact ⟨by omega, by omega⟩
  | push ws x cs rs h0 he ih =>
    have hpm : (upF (ws ++ [x]) ws.length ++ cs).Perm (ws ++ (x :: cs)) := by
      have := (upF_perm (ws ++ [x]) ws.length).append_right cs
      rw [List.append_assoc] at this
      exact this
    refine ⟨push_heap x ih.heap, ?_, fun D hD => ?_, fun y hy => ?_, fun hlt i hi => ?_, ih.gd, ih.who, ih.met⟩
    · obtain ⟨ds, hp, hr⟩ := ih.par
      refine ⟨x :: ds, ?_, fun y hy => ?_⟩
      · exact (List.perm_middle (a := x) (l₁ := ds) (l₂ := cs)).symm.trans hp
      · rcases List.mem_cons.1 hy with rfl | hy
        · omega
        · exact hr y hy
    · rw [sm_perm _ hpm]
      exact ih.dem D hD
    · have h1 := (upF_perm _ _).mem_iff.1 hy
      rcases List.mem_append.1 h1 with h1 | h1
      · exact ih.shape y h1
      · rw [List.mem_singleton.1 h1]
        obtain ⟨j, k, hj, hk, e⟩ := allJ_mem m xs 0 x (ih.cs_all x List.mem_cons_self)
        refine ⟨by omega, j, k, hj, ?_, ?_, ?_⟩
        · rw [e]; simp
        · rw [e]
        · rw [e]
    · rw [sm_perm _ hpm]
      exact ih.tick hlt i hi
  | idle cs rs h0 hd hlt ih =>
    have I := ed_inv hx hc h0
    have I' := ed_inv hx hc (Ed.idle cs rs h0 hd hlt)
    obtain ⟨n1, n2, n3⟩ := nextF_gt I hd hlt
    refine ed_adv (o := none) (t := nextF m cs - endF rs) hx I ih I' hd hlt (by omega) (by omega) rfl (fun i h0 h1 => by simp at h1) (fun i e he => by simp [sm]) (fun y hy => by cases hy) (fun D hD => ?_) (fun s hs => best_none fun i hi => ?_) (fun i e => by cases e)
    · rw [List.nil_append, sm_congr (dueBy D) (inW (nextF m cs) D) _ fun x hxx => ?_]
      · have := ih.static hx hw hm (s := nextF m cs) (D := D) (by have := I.e0; omega) (by omega)
        omega
      · have := n3 x hxx
        unfold dueBy inW
        congr 1
        apply propext
        exact ⟨fun a => ⟨this, a⟩, fun a => a.2⟩
    · have h1 := ih.tick hlt i hi
      rw [List.nil_append, sm_zero _ cs fun x hxx => ?_] at h1
      · show Lr xs (endF rs).toNat i - _ = 0
        omega
      · have := n3 x hxx
        rw [ofN, decide_eq_false_iff_not]
        rintro ⟨_, e⟩
        omega
  | run x ws cs rs hn t h0 hd hlt ht ih =>
    have I := ed_inv hx hc h0
    have I' := ed_inv hx hc (Ed.run x ws cs rs hn t h0 hd hlt ht)
    obtain ⟨n1, n2, n3⟩ := nextF_gt I hd hlt
    have hxo := I.ok x (.inl List.mem_cons_self)
    obtain ⟨j, hj⟩ : ∃ j : Nat, x.n = (j : Int) := ⟨x.n.toNat, by omega⟩
    have hjt : x.n.toNat = j := by omega
    have hjl : j < xs.length := by omega
    have hfirst := heap_head (x := x) (ws := ws) ih.heap
    have hl0 : ∀ y ∈ (x :: ws) ++ cs, 0 ≤ y.l := fun y hy => by
      have := I.ok y (List.mem_append.1 hy)
      omega
    -- a waiting job is not past its deadline
    have hlate : ∀ y ∈ x :: ws, endF rs < y.d := fun y hy => by
      refine Classical.byContradiction fun hne => ?_
      have h1 := ih.dem (endF rs) (Int.le_refl _)
      have h2 := sm_mem (dueBy (endF rs)) _ hl0 y (List.mem_append_left _ hy) (by rw [dueBy, decide_eq_true_eq]; omega)
      have h3 := I.ok y (.inl hy)
      omega
    obtain ⟨E, hE⟩ : ∃ E : Nat, endF rs = (E : Int) := ⟨(endF rs).toNat, by have := I.e0; omega⟩
    have hE2 : (endF rs).toNat = E := by omega
    have htk : ∀ i, i < xs.length → sm (ofN (i : Int) (endF rs)) (x :: ws) = (Lr xs E i : Int) := fun i hi => by
      have h1 := ih.tick hlt i hi
      rw [hE2, sm_append, sm_zero _ cs fun y hy => ?_] at h1
      · omega
      · have := n3 y hy
        rw [ofN, decide_eq_false_iff_not]
        rintro ⟨_, e⟩
        omega
    have hxr := (ih.shape x List.mem_cons_self).1
    have hLj : x.l ≤ (Lr xs E j : Int) := by
      rw [← htk j hjl]
      exact sm_mem _ _ (fun y hy => hl0 y (List.mem_append_left _ hy)) x List.mem_cons_self (by rw [ofN, decide_eq_true_eq]; exact ⟨hj, hxr⟩)
    -- the period of a waiting job is the present one
    have hdue : ∀ y ∈ x :: ws, ∀ i : Nat, y.n = (i : Int) → (dueT xs E i : Int) = y.d := fun y hy i hi => by
      obtain ⟨h1, j', k, hj', h2, h3, h4⟩ := ih.shape y hy
      have h5 := hlate y hy
      have hji : j' = i := by omega
      subst hji
      have h6 := hx _ (List.getElem_mem hj')
      rw [dueT_eq hj' (by omega) (k := k) (by omega) (by omega), h4]
    have hsub : xs[x.n.toNat].s = subj xs (some j) := by
      rw [subj_some xs j hjl]
      simp only [hjt]
    have hdec : ∀ D, decide (x.d ≤ D) = true → x.d ≤ D := fun D h => by simpa using h
    refine ed_adv (o := some j) (t := t) hx I ih I' hd hlt (by omega) (by omega) (by rw [hsub]) ?_ (fun i e he => ?_) (fun y hy => ?_) (fun D hD => ?_) (fun s hs => ?_) (fun i e => ?_)
    · unfold ranF
      split
      · exact pop_heap (left_heap ih.heap)
      · exact left_heap ih.heap
    · rw [sm_ran _ (fun l => rfl)]
      congr 1
      by_cases hij : j = i
      · subst hij
        rw [if_pos (by rw [ofN, decide_eq_true_eq]; exact ⟨hj, by omega⟩), if_pos rfl]
      · rw [if_neg (by rw [ofN, decide_eq_true_eq]; rintro ⟨a, _⟩; omega), if_neg (fun e => hij (Option.some.inj e))]
    · rcases ranF_mem hy with h | ⟨_, e⟩
      · exact ⟨y, List.mem_cons_of_mem _ h, rfl, rfl, rfl⟩
      · exact ⟨x, List.mem_cons_self, by rw [e], by rw [e], by rw [e]⟩
    · rw [sm_append, sm_ran _ (fun l => rfl)]
      have h1 := ih.dem D (by omega)
      rw [sm_append] at h1
      by_cases hxd : x.d ≤ D
      · rw [if_pos (by rw [dueBy, decide_eq_true_eq]; exact hxd)]
        omega
      · rw [if_neg (by rw [dueBy, decide_eq_true_eq]; exact hxd)]
        rw [sm_zero _ (x :: ws) fun y hy => ?_]
        · by_cases hDn : nextF m cs ≤ D
          · rw [sm_congr (dueBy D) (inW (nextF m cs) D) cs fun y hy => ?_]
            · have := ih.static hx hw hm (s := nextF m cs) (D := D) (by have := I.e0; omega) hDn
              omega
            · have := n3 y hy
              unfold dueBy inW
              congr 1
              apply propext
              exact ⟨fun a => ⟨this, a⟩, fun a => a.2⟩
          · rw [sm_zero _ cs fun y hy => ?_]
            · omega
            · have h5 := n3 y hy
              obtain ⟨j', k, hj', hk, e⟩ := allJ_mem m xs 0 y (ih.cs_all y hy)
              have h6 : y.r ≤ y.d := by rw [e]; simp only; omega
              rw [dueBy, decide_eq_false_iff_not]
              omega
        · have := hfirst y hy
          unfold leJ at this
          rw [dueBy, decide_eq_false_iff_not]
          omega
    · rw [hE2]
      refine best_is hjl ?_ fun i hi h0 => ?_
      · show 0 < Lr xs E j - (if some j = some j then s else 0)
        rw [if_pos rfl]
        omega
      · have h1 : 0 < Lr xs E i := Nat.lt_of_lt_of_le h0 (Nat.sub_le _ _)
        obtain ⟨y, hy, hf⟩ := sm_some _ (x :: ws) (by rw [htk i hi]; omega)
        rw [ofN, decide_eq_true_eq] at hf
        have h2 := hdue y hy i hf.1
        have h3 := hdue x List.mem_cons_self j hj
        have h4 := hfirst y hy
        unfold leJ at h4
        omega
    · cases e
      rw [hE2]
      exact ⟨hjl, by omega⟩
end Go.Proofs.Ytkhlkbgolonkkaa
/- Lanes: a slot row is known by who runs at which tick (plain mathematics). Own work. -/
namespace Go.Proofs.Ytkhlkbgolonkkaa
set_option linter.unusedVariables false
theorem gd_apart {e : Int} {p : Option ByteArray} {x y : S3} {r r2 : List S3} (hx : Gd e p (x :: r)) (hy : Gd e p (y :: r2)) (he : endE x.t r = endE y.t r2) (hs : x.s = y.s) (hf : ∀ t, e ≤ t → t < endE x.t r → (findS t (x :: r)).1 = (findS t (y :: r2)).1) (hlt : x.t < y.t) : False := by
  have h1 := gd_lt hx.1
  have h2 := gd_le r2 _ _ hy.2
  cases r with
  | nil =>
    have : x.t = endE y.t r2 := he
    omega
  | cons z r' =>
    have h3 := gd_lt hx.2.1
    have h4 := gd_le r' _ _ hx.2.2
    have h5 := hf x.t (by omega) (by show x.t < endE z.t r'; omega)
    have e1 : findS x.t (x :: z :: r') = (z.s, z.t - x.t) := by
      show (if x.t < x.t then _ else if x.t < z.t then _ else _) = _
      rw [if_neg (by omega), if_pos h3.2]
    have e2 : findS x.t (y :: r2) = (y.s, y.t - x.t) := by
      show (if x.t < y.t then _ else _) = _
      rw [if_pos hlt]
    rw [e1, e2] at h5
    have h6 : z.s = y.s := h5
    refine hx.2.1 (.inr (.inr ⟨x.s, rfl, ?_⟩))
    rw [h6, hs]
    simp
theorem gd_uniq : ∀ (xs ys : List S3) (e : Int) (p : Option ByteArray), Gd e p xs → Gd e p ys → endE e xs = endE e ys → (∀ t, e ≤ t → t < endE e xs → (findS t xs).1 = (findS t ys).1) → xs = ys
  | [], [], _, _, _, _, _, _ => rfl
  | [], y :: r2, e, p, _, hy, he, _ => by
    have h1 := gd_lt hy.1
    have h2 := gd_le r2 _ _ hy.2
    have : e = endE y.t r2 := he
    omega
  | x :: r, [], e, p, hx, _, he, _ => by
    have h1 := gd_lt hx.1
    have h2 := gd_le r _ _ hx.2
    have : endE x.t r = e := he
    omega
  | x :: r, y :: r2, e, p, hx, hy, he, hf => by
    have he : endE x.t r = endE y.t r2 := he
    have hf : ∀ t, e ≤ t → t < endE x.t r → (findS t (x :: r)).1 = (findS t (y :: r2)).1 := hf
    have h1 := gd_lt hx.1
    have h2 := gd_lt hy.1
    have h3 := gd_le r _ _ hx.2
    have hs : x.s = y.s := by
      have h5 := hf e (Int.le_refl _) (by omega)
      have e1 : findS e (x :: r) = (x.s, x.t - e) := by
        show (if e < x.t then _ else _) = _
        rw [if_pos h1.2]
      have e2 : findS e (y :: r2) = (y.s, y.t - e) := by
        show (if e < y.t then _ else _) = _
        rw [if_pos h2.2]
      rw [e1, e2] at h5
      exact h5
    have ht : x.t = y.t := by
      rcases Int.lt_trichotomy x.t y.t with h | h | h
      · exact (gd_apart hx hy he hs hf h).elim
      · exact h
      · exact (gd_apart hy hx he.symm hs.symm (fun t a b => (hf t a (by omega)).symm) h).elim
    have hxy : x = y := by
      obtain ⟨a, b, c⟩ := x
      obtain ⟨a', b', c'⟩ := y
      simp only at hs ht h1 h2
      rw [hs, ht, h1.1, h2.1]
    subst hxy
    congr 1
    refine gd_uniq r r2 x.t (some x.s) hx.2 hy.2 he fun t a b => ?_
    have h5 := hf t (by omega) b
    have e1 : findS t (x :: r) = findS t r := by
      show (if t < x.t then _ else _) = _
      rw [if_neg (by omega)]
    have e2 : findS t (x :: r2) = findS t r2 := by
      show (if t < x.t then _ else _) = _
      rw [if_neg (by omega)]
    rw [e1, e2] at h5
    exact h5
/-- the needs of the document's second example -/
def exN : List R4 := [⟨0, ⟨#[97]⟩, 1, 2⟩, ⟨0, ⟨#[98]⟩, 2, 4⟩]
def exR : List S3 := [⟨⟨#[97]⟩, 0, 1⟩, ⟨⟨#[98]⟩, 1, 2⟩, ⟨⟨#[97]⟩, 2, 3⟩, ⟨⟨#[98]⟩, 3, 4⟩]
theorem exN_ok : NeedOk 4 exN := by
  intro r hr
  simp only [exN, List.mem_cons, List.not_mem_nil, or_false] at hr
  rcases hr with rfl | rfl <;> decide
theorem exR_gd : Gd 0 none exR := by
  have hab : ¬ (((⟨#[98]⟩ : ByteArray).toList == (⟨#[97]⟩ : ByteArray).toList) = true) := by rw [ByteArray.toList_eq, ByteArray.toList_eq]; decide
  have hba : ¬ (((⟨#[97]⟩ : ByteArray).toList == (⟨#[98]⟩ : ByteArray).toList) = true) := by rw [ByteArray.toList_eq, ByteArray.toList_eq]; decide
  refine ⟨?_, ?_, ?_, ?_, trivial⟩
  · rintro (h | h | ⟨q, h, _⟩)
    · exact h rfl
    · exact absurd h (by decide)
    · cases h
  · rintro (h | h | ⟨q, h, h2⟩)
    · exact h rfl
    · exact absurd h (by decide)
    · cases h; exact hab h2
  · rintro (h | h | ⟨q, h, h2⟩)
    · exact h rfl
    · exact absurd h (by decide)
    · cases h; exact hba h2
  · rintro (h | h | ⟨q, h, h2⟩)
    · exact h rfl
    · exact absurd h (by decide)
    · cases h; exact hab h2
theorem ex_row {ws cs : List J4} {rs : List S3} (h : Ed 4 exN ws cs rs) (he : endF rs = 4) : rs = exR := by
  have J := ed_edf exN_ok (by decide) (by decide) (by decide) h
  have ee : endE 0 rs = 4 := by rw [endE_endF, he]
  refine gd_uniq rs exR 0 none J.gd exR_gd (by rw [ee]; rfl) fun t h0 h1 => ?_
  rw [ee] at h1
  have h5 := J.who t.toNat (by omega)
  rw [show ((t.toNat : Nat) : Int) = t by omega] at h5
  rw [h5]
  have : t = 0 ∨ t = 1 ∨ t = 2 ∨ t = 3 := by omega
  rcases this with rfl | rfl | rfl | rfl
  · rw [show bestT exN (0 : Int).toNat = some 0 from by decide]; rfl
  · rw [show bestT exN (1 : Int).toNat = some 1 from by decide]; rfl
  · rw [show bestT exN (2 : Int).toNat = some 0 from by decide]; rfl
  · rw [show bestT exN (3 : Int).toNat = some 1 from by decide]; rfl
theorem ex_ref : refF 4 true 4 0 exN = (0, 0) := by
  simp [refF, wantsF, exN, ByteArray.toList_eq]
end Go.Proofs.Ytkhlkbgolonkkaa
/- LanesNeeds: what the law counts (plain mathematics), and Flatten as it is asked there. Own work. -/
namespace Go.Proofs.Ytkhlkbgolonkkaa
open Go.RowKit
set_option linter.unusedVariables false
/-- a need that the law lets by -/
def NdOk (m : Nat) (r : R4) : Prop := 1 ≤ r.b ∧ r.b ≤ r.p ∧ r.p ≤ m ∧ m % r.p = 0 ∧ r.s.toList.isEmpty = false
theorem NdOk.wants {m : Nat} {r : R4} (h : NdOk m r) : wantsF m true r = (r.b * (m / r.p), 0) := by
  obtain ⟨h1, h2, h3, h4, h5⟩ := h
  unfold wantsF
  rw [if_neg (by omega), if_neg (by decide), if_neg (by rw [h5]; decide), if_neg (by omega)]
theorem refN_bad {m : Nat} : ∀ (xs : List R4) (l i : Nat), (∀ r ∈ xs, NdOk m r) → (wantN m xs ≤ l → (refF m true l i xs).2 = 0) ∧ (l < wantN m xs → (refF m true l i xs).2 = 93 ∧ (refF m true l i xs).1 < i + xs.length)
  | [], l, i, _ => ⟨fun _ => rfl, fun h => absurd h (by simp [wantN])⟩
  | x :: r, l, i, h => by
    have e := (h x List.mem_cons_self).wants
    unfold refF
    rw [e]
    simp only [ne_eq, not_true_eq_false, if_false, wantN, List.length_cons]
    by_cases h2 : l < x.b * (m / x.p)
    · rw [if_pos h2]
      exact ⟨fun h3 => by omega, fun _ => ⟨rfl, by show i < _; omega⟩⟩
    · rw [if_neg h2]
      obtain ⟨a1, a2⟩ := refN_bad r (l - x.b * (m / x.p)) (i + 1) (fun y hy => h y (List.mem_cons_of_mem _ hy))
      exact ⟨fun h3 => a1 (by omega), fun h3 => by have := a2 (by omega); exact ⟨this.1, by omega⟩⟩
/-- Flatten of needs that the law lets by -/
theorem flat_needs_law {w : World} {v : Value} {xs : List R4} {m : Nat} {q cp : Int} (h : Rn w v xs) (hm0 : 1 ≤ m) (hm : m ≤ 65536) (hx : ∀ r ∈ xs, NdOk m r) : Calls Try.prog 10 #[.int .u64 (m : Int), .agg #[.int .i64 q, .int .u64 cp, .bool true, v]] w fun e w' => Below w.heap.size w w' ∧
    ((m < wantN m xs ∧ ∃ i : Nat, i < xs.length ∧ e = .returned (.tuple #[.slice none 0 0, .int .i64 (i : Int), .int .i64 93])) ∨
     (wantN m xs ≤ m ∧ e = .returned (.tuple #[.slice none 0 0, .int .i64 (-1), .int .i64 4])) ∨
     (wantN m xs ≤ m ∧ ∃ ws cs rs u, e = .returned (.tuple #[u, .int .i64 0, .int .i64 0]) ∧ OwnS w' w.heap.size u rs ∧ EdJ m xs ws cs rs ∧ endF rs = (m : Int) ∧ rs.length ≤ 4096)) := by
  obtain ⟨a1, a2⟩ := refN_bad xs m 0 hx
  refine (flatten_needs h hm0 hm).mono ?_
  rintro e w' ⟨hb, ⟨hr, rfl⟩ | ⟨hr, ws, cs, rs, hed, hend, ⟨hl, rfl⟩ | ⟨hl, u, rfl, ho⟩⟩⟩
  · have hs : m < wantN m xs := Classical.byContradiction fun hc => hr (a1 (by omega))
    obtain ⟨b1, b2⟩ := a2 hs
    exact ⟨hb, .inl ⟨hs, _, by rw [Nat.zero_add] at b2; exact b2, by rw [b1]⟩⟩
  · have hs : wantN m xs ≤ m := Classical.byContradiction fun hc => by have := (a2 (by omega)).1; omega
    exact ⟨hb, .inr (.inl ⟨hs, rfl⟩)⟩
  · have hs : wantN m xs ≤ m := Classical.byContradiction fun hc => by have := (a2 (by omega)).1; omega
    obtain ⟨⟨b1, b2, b3⟩, _⟩ := refN_ok hm _ _ _ hr
    exact ⟨hb, .inr (.inr ⟨hs, ws, cs, rs, u, rfl, ho, ed_edf b1 b2 hm0 (by have := b3 0; omega) hed, hend, hl⟩)⟩
theorem lr_le (xs : List R4) : ∀ (t i : Nat), Lr xs t i ≤ bN xs i
  | 0, i => Nat.le_refl _
  | t + 1, i => by
    show (if (t + 1) % pN xs i = 0 then bN xs i else Lr xs t i - (if bestI (Lr xs t) (dueT xs t) xs.length = some i then 1 else 0)) ≤ _
    have := lr_le xs t i
    split
    · exact Nat.le_refl _
    · omega
/-- what a need has had, ahead of a tick -/
def Db (xs : List R4) : Nat → Nat → Nat
  | 0, _ => 0
  | t + 1, i => bN xs i - (Lr xs t i - (if bestT xs t = some i then 1 else 0))
/-- what it has had when its period has begun -/
def Da (xs : List R4) (t i : Nat) : Nat := bN xs i - Lr xs t i
theorem db_same {xs : List R4} {t i : Nat} (h : ¬ t % pN xs i = 0) : Db xs t i = Da xs t i := by
  cases t with
  | zero => simp at h
  | succ t =>
    show bN xs i - (Lr xs t i - (if bestT xs t = some i then 1 else 0)) = bN xs i - (if (t + 1) % pN xs i = 0 then bN xs i else Lr xs t i - (if bestT xs t = some i then 1 else 0))
    rw [if_neg h]
theorem da_zero {xs : List R4} {t i : Nat} (h : t % pN xs i = 0) : Da xs t i = 0 := by
  cases t with
  | zero => simp [Da, Lr]
  | succ t =>
    show bN xs i - (if (t + 1) % pN xs i = 0 then bN xs i else _) = 0
    rw [if_pos h]
    omega
theorem db_full {m : Nat} {xs : List R4} {ws cs : List J4} {rs : List S3} (J : EdJ m xs ws cs rs) {i : Nat} (hi : i < xs.length) {t : Nat} (h0 : 0 < t) (ht : (t : Int) ≤ endF rs) (h : t % pN xs i = 0) : Db xs t i = bN xs i := by
  rw [pN_eq xs i hi] at h
  have h1 := J.met i hi t h0 ht h
  obtain ⟨s, rfl⟩ : ∃ s, t = s + 1 := ⟨t - 1, by omega⟩
  rw [Nat.add_sub_cancel] at h1
  show bN xs i - (Lr xs s i - (if bestT xs s = some i then 1 else 0)) = bN xs i
  rw [h1]
  omega
theorem db_next_miss {xs : List R4} {t i : Nat} (h : bestT xs t ≠ some i) : Db xs (t + 1) i = Da xs t i := by
  show bN xs i - (Lr xs t i - (if bestT xs t = some i then 1 else 0)) = bN xs i - Lr xs t i
  rw [if_neg h]
  rfl
theorem db_next_hit {xs : List R4} {t i : Nat} (h : bestT xs t = some i) : Db xs (t + 1) i = Da xs t i + 1 := by
  have h1 := ((bestI_spec (Lr xs t) (dueT xs t) xs.length).2 i h).2.1
  have h2 := lr_le xs t i
  show bN xs i - (Lr xs t i - (if bestT xs t = some i then 1 else 0)) = bN xs i - Lr xs t i + 1
  rw [if_pos h]
  omega
theorem da_lt {xs : List R4} {t i : Nat} : Da xs t i < bN xs i ↔ 0 < Lr xs t i := by
  have h2 := lr_le xs t i
  unfold Da
  omega
/-- the slot of a tick -/
theorem find_at : ∀ (rs : List S3) (t : Int) (k : Nat) (hk : k < rs.length), (∀ j (hj : j < rs.length), j < k → rs[j].t ≤ t) → t < rs[k].t → (findS t rs).1 = rs[k].s
  | x :: r, t, 0, _, _, h => by
    have h : t < x.t := h
    show (if t < x.t then (x.s, x.t - t) else findS t r).1 = x.s
    rw [if_pos h]
  | x :: r, t, k + 1, hk, hj, h => by
    have h0 := hj 0 (by simp) (by omega)
    simp only [List.getElem_cons_zero] at h0
    show (if t < x.t then (x.s, x.t - t) else findS t r).1 = _
    rw [if_neg (by omega)]
    exact find_at r t k (by simpa using hk) (fun j hj' hlt => by have := hj (j + 1) (by simpa using hj') (by omega); simpa using this) (by simpa using h)
theorem last_to {rs : List S3} {m : Nat} (he : endF rs = (m : Int)) (hm : 1 ≤ m) : ∃ h : 0 < rs.length, rs[rs.length - 1].t = (m : Int) := by
  rcases List.eq_nil_or_concat rs with rfl | ⟨ys, l, rfl⟩
  · have : (0 : Int) = (m : Int) := he
    omega
  · rw [List.concat_eq_append] at *
    have : endF (ys ++ [l]) = l.t := by simp [endF]
    refine ⟨by simp, ?_⟩
    simp only [List.length_append, List.length_singleton, Nat.add_sub_cancel, List.getElem_concat_length]
    rw [← this, he]
end Go.Proofs.Ytkhlkbgolonkkaa
/- LanesNeeds: what the law's row of done ticks holds, tick by tick (plain mathematics). Own work. -/
namespace Go.Proofs.Ytkhlkbgolonkkaa
open Go.RowKit
set_option linter.unusedVariables false
/-- behind the first i needs of a tick -/
def dW (xs : List R4) (t i : Nat) : List Nat := (List.range xs.length).map fun j => if j < i then Da xs t j else Db xs t j
theorem dW_len (xs : List R4) (t i : Nat) : (dW xs t i).length = xs.length := by simp [dW]
theorem dW_get {xs : List R4} {t i j : Nat} (h : j < (dW xs t i).length) : (dW xs t i)[j] = if j < i then Da xs t j else Db xs t j := by simp [dW]
theorem dW_start (xs : List R4) : dW xs 0 0 = List.replicate xs.length 0 := by
  refine List.eq_replicate_iff.2 ⟨dW_len _ _ _, fun b hb => ?_⟩
  obtain ⟨j, _, rfl⟩ := List.mem_map.1 hb
  rw [if_neg (Nat.not_lt_zero j)]
  rfl
theorem dW_set (xs : List R4) (t i : Nat) : (dW xs t i).set i (Da xs t i) = dW xs t (i + 1) := by
  refine List.ext_getElem (by simp [dW_len]) fun j h1 h2 => ?_
  rw [List.getElem_set, dW_get, dW_get]
  by_cases e : i = j
  · subst e
    rw [if_pos rfl, if_pos (by omega)]
  · rw [if_neg e]
    by_cases hj : j < i
    · rw [if_pos hj, if_pos (by omega)]
    · rw [if_neg hj, if_neg (by omega)]
theorem dW_same {xs : List R4} {t i : Nat} (h : Db xs t i = Da xs t i) : dW xs t (i + 1) = dW xs t i := by
  refine List.ext_getElem (by simp [dW_len]) fun j h1 h2 => ?_
  rw [dW_get, dW_get]
  by_cases e : j = i
  · subst e
    rw [if_pos (by omega), if_neg (by omega), h]
  · by_cases hj : j < i
    · rw [if_pos hj, if_pos (by omega)]
    · rw [if_neg hj, if_neg (by omega)]
theorem dW_none {xs : List R4} {t : Nat} (h : bestT xs t = none) : dW xs t xs.length = dW xs (t + 1) 0 := by
  refine List.ext_getElem (by simp [dW_len]) fun j h1 h2 => ?_
  rw [dW_len] at h1
  rw [dW_get, dW_get, if_pos h1, if_neg (by omega), db_next_miss (by rw [h]; simp)]
theorem dW_some {xs : List R4} {t i : Nat} (h : bestT xs t = some i) : (dW xs t xs.length).set i (Da xs t i + 1) = dW xs (t + 1) 0 := by
  refine List.ext_getElem (by simp [dW_len]) fun j h1 h2 => ?_
  rw [List.length_set, dW_len] at h1
  rw [List.getElem_set, dW_get, dW_get, if_neg (by omega : ¬ j < 0)]
  by_cases e : i = j
  · subst e
    rw [if_pos rfl, db_next_hit h]
  · rw [if_neg e, if_pos h1, db_next_miss (by rw [h]; simp; exact e)]
/-- the law's first and due -/
def fI : Option Nat → Int
  | none => -1
  | some j => (j : Int)
def uD (xs : List R4) (t : Nat) : Option Nat → Nat
  | none => 0
  | some j => dueT xs t j
/-- of the first i needs who is due first -/
def bI (xs : List R4) (t i : Nat) : Option Nat := bestI (Lr xs t) (dueT xs t) i
theorem bI_full (xs : List R4) (t : Nat) : bI xs t xs.length = bestT xs t := rfl
theorem bI_idle {xs : List R4} {t i : Nat} (h : ¬ Da xs t i < bN xs i) : bI xs t (i + 1) = bI xs t i := by
  have h0 : ¬ 0 < Lr xs t i := fun hc => h (da_lt.2 hc)
  show (match bestI (Lr xs t) (dueT xs t) i with
    | none => if 0 < Lr xs t i then some i else none
    | some j => if 0 < Lr xs t i ∧ dueT xs t i < dueT xs t j then some i else some j) = bestI (Lr xs t) (dueT xs t) i
  cases bestI (Lr xs t) (dueT xs t) i with
  | none => simp only; rw [if_neg h0]
  | some j => simp only; rw [if_neg (fun hc => h0 hc.1)]
theorem bI_first {xs : List R4} {t i : Nat} (h : Da xs t i < bN xs i) (hn : bI xs t i = none) : bI xs t (i + 1) = some i := by
  have h0 := da_lt.1 h
  have hn : bestI (Lr xs t) (dueT xs t) i = none := hn
  show (match bestI (Lr xs t) (dueT xs t) i with
    | none => if 0 < Lr xs t i then some i else none
    | some j => if 0 < Lr xs t i ∧ dueT xs t i < dueT xs t j then some i else some j) = some i
  rw [hn]
  simp only
  rw [if_pos h0]
theorem bI_sooner {xs : List R4} {t i j : Nat} (h : Da xs t i < bN xs i) (hn : bI xs t i = some j) (hd : dueT xs t i < dueT xs t j) : bI xs t (i + 1) = some i := by
  have h0 := da_lt.1 h
  have hn : bestI (Lr xs t) (dueT xs t) i = some j := hn
  show (match bestI (Lr xs t) (dueT xs t) i with
    | none => if 0 < Lr xs t i then some i else none
    | some j => if 0 < Lr xs t i ∧ dueT xs t i < dueT xs t j then some i else some j) = some i
  rw [hn]
  simp only
  rw [if_pos ⟨h0, hd⟩]
theorem bI_later {xs : List R4} {t i j : Nat} (hn : bI xs t i = some j) (hd : ¬ dueT xs t i < dueT xs t j) : bI xs t (i + 1) = some j := by
  have hn : bestI (Lr xs t) (dueT xs t) i = some j := hn
  show (match bestI (Lr xs t) (dueT xs t) i with
    | none => if 0 < Lr xs t i then some i else none
    | some j => if 0 < Lr xs t i ∧ dueT xs t i < dueT xs t j then some i else some j) = some j
  rw [hn]
  simp only
  rw [if_neg (fun hc => hd hc.2)]
theorem bI_lt {xs : List R4} {t i j : Nat} (h : bI xs t i = some j) : j < i := ((bestI_spec (Lr xs t) (dueT xs t) i).2 j h).1
theorem da_le (xs : List R4) (t i : Nat) : Da xs t i ≤ bN xs i := Nat.sub_le _ _
theorem db_le {xs : List R4} {t i : Nat} : Db xs t i ≤ bN xs i := by
  cases t with
  | zero => exact Nat.zero_le _
  | succ t => exact Nat.sub_le _ _
theorem due_at {xs : List R4} {t i : Nat} (hi : i < xs.length) : dueT xs t i = (t / xs[i].p + 1) * xs[i].p := by unfold dueT; rw [pN_eq xs i hi]
theorem due_le {xs : List R4} {m t i : Nat} (hi : i < xs.length) (hp : xs[i].p ≤ m) (ht : t ≤ m) : dueT xs t i ≤ 2 * m := by
  rw [due_at hi, Nat.add_mul, Nat.one_mul]
  have := Nat.div_mul_le_self t xs[i].p
  omega
/-- who runs: the slot's name -/
theorem slot_who {m : Nat} {xs : List R4} {ws cs : List J4} {rs : List S3} (J : EdJ m xs ws cs rs) (he : endF rs = (m : Int)) {t k : Nat} (ht : t < m) (hk : k < rs.length) (h1 : ∀ j (hj : j < rs.length), j < k → rs[j].t ≤ (t : Int)) (h2 : (t : Int) < rs[k].t) : rs[k].s = subj xs (bestT xs t) := by
  rw [← find_at rs (t : Int) k hk h1 h2]
  exact J.who t (by omega)
/-- a row of numbers -/
def uv (l : List Nat) : List Value := l.map fun (n : Nat) => Value.int .u64 (n : Int)
theorem uv_len (l : List Nat) : (uv l).length = l.length := by simp [uv]
theorem uv_get (l : List Nat) (j : Nat) (h : j < l.length) : (uv l)[j]'(by rw [uv_len]; exact h) = Value.int .u64 (l[j] : Int) := by simp [uv]
theorem uv_set (l : List Nat) (j n : Nat) : (uv l).set j (.int .u64 (n : Int)) = uv (l.set j n) := by
  unfold uv
  rw [List.map_set]
end Go.Proofs.Ytkhlkbgolonkkaa
