/- Lanes: what byDeadline makes is earliest deadline first, tick by tick (plain mathematics). Own work. -/
import Derived.Test.YtkhlkbgolonkkaaLnTick
namespace Go.Proofs.Ytkhlkbgolonkkaa
set_option linter.unusedVariables false
def dueBy (D : Int) (x : J4) : Bool := decide (x.d ≤ D)
def ofN (i : Int) (e : Int) (x : J4) : Bool := decide (x.n = i ∧ x.r ≤ e)
structure EdJ (m : Nat) (xs : List R4) (ws cs : List J4) (rs : List S3) : Prop where
  heap : HeapN ws.length ws
  par : ∃ ds, (ds ++ cs).Perm (allJ m 0 xs) ∧ ∀ x ∈ ds, x.r ≤ endF rs
  dem : ∀ D, endF rs ≤ D → sm (dueBy D) (ws ++ cs) ≤ D - endF rs
  shape : ∀ x ∈ ws, x.r ≤ endF rs ∧ ∃ (j k : Nat) (h : j < xs.length), x.n = (j : Int) ∧ x.r = ((k * xs[j].p : Nat) : Int) ∧ x.d = ((k * xs[j].p + xs[j].p : Nat) : Int)
  tick : endF rs < (m : Int) → ∀ i, i < xs.length → sm (ofN (i : Int) (endF rs)) (ws ++ cs) = (Lr xs (endF rs).toNat i : Int)
  gd : Gd 0 none rs
  who : ∀ t : Nat, (t : Int) < endF rs → (findS (t : Int) rs).1 = subj xs (bestT xs t)
  met : ∀ (i : Nat) (hi : i < xs.length) (z : Nat), 0 < z → (z : Int) ≤ endF rs → z % xs[i].p = 0 → Lr xs (z - 1) i = if bestT xs (z - 1) = some i then 1 else 0
/-- jobs that come are jobs of the needs -/
theorem EdJ.cs_all {m : Nat} {xs : List R4} {ws cs : List J4} {rs : List S3} (h : EdJ m xs ws cs rs) : ∀ x ∈ cs, x ∈ allJ m 0 xs := by
  obtain ⟨ds, hp, _⟩ := h.par
  exact fun x hx => hp.mem_iff.1 (List.mem_append_right _ hx)
theorem allJ_pos {m : Nat} {xs : List R4} {k : Nat} : ∀ x ∈ allJ m k xs, 0 ≤ x.l := by
  intro x hx
  obtain ⟨j, q, hj, _, e⟩ := allJ_mem m xs k x hx
  rw [e]
  exact Int.natCast_nonneg _
theorem EdJ.static {m : Nat} {xs : List R4} {ws cs : List J4} {rs : List S3} (h : EdJ m xs ws cs rs) (hx : NeedOk m xs) (hw : wantN m xs ≤ m) (hm : 1 ≤ m) {s D : Int} (hs : 0 ≤ s) (hD : s ≤ D) : sm (inW s D) cs ≤ D - s := by
  obtain ⟨ds, hp, _⟩ := h.par
  have h1 := want_le hx hw hm hs hD
  rw [← sm_perm _ hp, sm_append] at h1
  have h2 := sm_nonneg (inW s D) ds fun x hxx => allJ_pos x (hp.mem_iff.1 (List.mem_append_left _ hxx))
  omega
theorem EdJ.at {m : Nat} {xs : List R4} {ws cs : List J4} {rs : List S3} (h : EdJ m xs ws cs rs) (hx : NeedOk m xs) {s : Nat} (hs : endF rs < (s : Int)) {i : Nat} (hi : i < xs.length) : sm (isAt (i : Int) (s : Int)) cs = if s % xs[i].p = 0 ∧ s < m then (xs[i].b : Int) else 0 := by
  obtain ⟨ds, hp, hr⟩ := h.par
  have h1 := sm_allJ_at s xs 0 i hi hx
  rw [Nat.zero_add, ← sm_perm _ hp, sm_append, sm_zero _ ds fun x hxx => ?_] at h1
  · omega
  · rw [isAt, decide_eq_false_iff_not]
    rintro ⟨_, e⟩
    have := hr x hxx
    omega
theorem EdJ.mult {m : Nat} {xs : List R4} {ws cs : List J4} {rs : List S3} (h : EdJ m xs ws cs rs) (hx : NeedOk m xs) (hn2 : nextF m cs ≤ (m : Int)) (hn3 : ∀ x ∈ cs, nextF m cs ≤ x.r) {i : Nat} (hi : i < xs.length) {z : Nat} (hz : z % xs[i].p = 0) (he : endF rs < (z : Int)) : nextF m cs ≤ (z : Int) := by
  by_cases hzm : z < m
  · have h1 := h.at hx he hi
    have h2 := hx _ (List.getElem_mem hi)
    rw [if_pos ⟨hz, hzm⟩] at h1
    obtain ⟨x, hxx, hf⟩ := sm_some _ cs (by rw [h1]; omega)
    rw [isAt, decide_eq_true_eq] at hf
    have := hn3 x hxx
    omega
  · omega
/-- time goes on -/
theorem ed_adv {m : Nat} {xs : List R4} {ws ws' cs : List J4} {rs rs' : List S3} {t : Int} {o : Option Nat} (hx : NeedOk m xs) (I : EdI m xs ws cs rs) (J : EdJ m xs ws cs rs) (I' : EdI m xs ws' cs rs') (hd : dueN (endF rs) cs) (hlt : endF rs < (m : Int)) (ht1 : 1 ≤ t) (ht2 : endF rs + t ≤ nextF m cs) (hrs : rs' = adds rs (subj xs o) t) (hheap : HeapN ws'.length ws')
    (hsm : ∀ (i : Nat) (e : Int), endF rs ≤ e → sm (ofN (i : Int) e) ws' = sm (ofN (i : Int) e) ws - (if o = some i then t else 0)) (hmem : ∀ y ∈ ws', ∃ z ∈ ws, y.n = z.n ∧ y.r = z.r ∧ y.d = z.d)
    (hdem : ∀ D, endF rs + t ≤ D → sm (dueBy D) (ws' ++ cs) ≤ D - (endF rs + t)) (hbest : ∀ s : Nat, (s : Int) < t → bestI (fun i => Lr xs (endF rs).toNat i - (if o = some i then s else 0)) (dueT xs (endF rs).toNat) xs.length = o) (hnn : ∀ i, o = some i → i < xs.length ∧ t ≤ (Lr xs (endF rs).toNat i : Int)) : EdJ m xs ws' cs rs' := by
  obtain ⟨n1, n2, n3⟩ := nextF_gt I hd hlt
  have ee : endF rs' = endF rs + t := by rw [hrs, adds_end]
  obtain ⟨E, hE⟩ : ∃ E : Nat, endF rs = (E : Int) := ⟨(endF rs).toNat, by have := I.e0; omega⟩
  obtain ⟨T, hT⟩ : ∃ T : Nat, t = (T : Int) := ⟨t.toNat, by omega⟩
  obtain ⟨NX, hNX⟩ : ∃ NX : Nat, nextF m cs = (NX : Int) := ⟨(nextF m cs).toNat, by omega⟩
  have hE2 : (endF rs).toNat = E := by omega
  rw [hE2] at hbest hnn
  have hE3 : (endF rs').toNat = E + T := by omega
  have hp : ∀ i, i < xs.length → 1 ≤ pN xs i := fun i hi => by
    rw [pN_eq xs i hi]
    have := hx _ (List.getElem_mem hi)
    omega
  have hmul : ∀ i, i < xs.length → ∀ z, z % pN xs i = 0 → E < z → NX ≤ z := fun i hi z hz hez => by
    rw [pN_eq xs i hi] at hz
    have := J.mult hx n2 n3 hi hz (by omega)
    omega
  have hb : ∀ s, s < T → bestI (fun i => Lr xs E i - (if o = some i then s else 0)) (dueT xs E) xs.length = o := fun s hs => hbest s (by omega)
  have hg := adds_gd (s := subj xs o) (n := t) J.gd (by omega)
  rw [← hrs] at hg
  have k12 : ∀ i (hi : i < xs.length), sm (ofN (i : Int) (endF rs')) ws' = (Lr xs E i : Int) - (if o = some i then t else 0) := by
    intro i hi
    have k1 : sm (ofN (i : Int) (endF rs')) ws = (Lr xs E i : Int) := by
      have h1 := J.tick hlt i hi
      rw [hE2, sm_append, sm_zero _ cs fun x hxx => ?_] at h1
      · rw [← Int.add_zero (sm _ ws), ← h1]
        congr 1
        refine sm_congr _ _ ws fun x hxx => ?_
        have := (J.shape x hxx).1
        unfold ofN
        congr 1
        apply propext
        constructor
        · rintro ⟨a, b⟩; exact ⟨a, by omega⟩
        · rintro ⟨a, b⟩; exact ⟨a, by omega⟩
      · have := n3 x hxx
        rw [ofN, decide_eq_false_iff_not]
        rintro ⟨_, e⟩
        omega
    have k2 := hsm i (endF rs') (by omega)
    rw [k1] at k2
    exact k2
  have hz : ∀ i (hi : i < xs.length), (E + T) % xs[i].p = 0 → sm (ofN (i : Int) (endF rs')) ws' = 0 := by
    intro i hi hmod
    refine Classical.byContradiction fun hne => ?_
    obtain ⟨y, hy, hf⟩ := sm_some _ ws' hne
    rw [ofN, decide_eq_true_eq] at hf
    obtain ⟨z, hz, e1, e2, e3⟩ := hmem y hy
    obtain ⟨h1, j, k, hj, h2, h3, h4⟩ := J.shape z hz
    have hji : j = i := by omega
    subst hji
    obtain ⟨c, hc⟩ := Nat.dvd_of_mod_eq_zero hmod
    have hkc : k < c := by
      refine Nat.lt_of_mul_lt_mul_right (a := xs[j].p) ?_
      rw [Nat.mul_comm c, ← hc]
      omega
    have hkc2 : (k + 1) * xs[j].p ≤ c * xs[j].p := Nat.mul_le_mul_right _ hkc
    rw [Nat.succ_mul, Nat.mul_comm c, ← hc] at hkc2
    have hdm := hdem (endF rs') (by omega)
    have hpos : ∀ x ∈ ws' ++ cs, 0 ≤ x.l := fun x hxx => by
      have := I'.ok x (List.mem_append.1 hxx)
      omega
    have hle := sm_mem (dueBy (endF rs')) (ws' ++ cs) hpos y (List.mem_append_left _ hy) (by rw [dueBy, decide_eq_true_eq]; omega)
    have := I'.ok y (.inl hy)
    omega
  refine ⟨hheap, ?_, ?_, ?_, ?_, hg.1, ?_, ?_⟩
  · obtain ⟨ds, hpm, hr⟩ := J.par
    exact ⟨ds, hpm, fun x hxx => by have := hr x hxx; omega⟩
  · intro D hD
    rw [ee] at hD ⊢
    exact hdem D hD
  · intro y hy
    obtain ⟨z, hz, e1, e2, e3⟩ := hmem y hy
    obtain ⟨h1, j, k, hj, h2, h3, h4⟩ := J.shape z hz
    exact ⟨by omega, j, k, hj, by omega, by omega, by omega⟩
  · intro hlt' i hi
    rw [hE3]
    have hpi := hx _ (List.getElem_mem hi)
    have hla := lr_after hp hmul (by omega) (by omega) hb i hi
    rw [bN_eq xs i hi, pN_eq xs i hi] at hla
    have k2 := k12 i hi
    have k3 : sm (ofN (i : Int) (endF rs')) cs = if (E + T) % xs[i].p = 0 then (xs[i].b : Int) else 0 := by
      by_cases hen : E + T = NX
      · have h1 := J.at hx (s := NX) (by omega) hi
        have h2 : sm (ofN (i : Int) (endF rs')) cs = sm (isAt (i : Int) (NX : Int)) cs := by
          refine sm_congr _ _ cs fun x hxx => ?_
          have := n3 x hxx
          unfold ofN isAt
          congr 1
          apply propext
          constructor
          · rintro ⟨a, b⟩; exact ⟨a, by omega⟩
          · rintro ⟨a, b⟩; exact ⟨a, by omega⟩
        rw [h2, h1, hen]
        have : NX < m := by omega
        simp [this]
      · rw [sm_zero _ cs fun x hxx => ?_, if_neg fun h => ?_]
        · have := hmul i hi (E + T) (by rw [pN_eq xs i hi]; exact h) (by omega)
          omega
        · have := n3 x hxx
          rw [ofN, decide_eq_false_iff_not]
          rintro ⟨_, e⟩
          omega
    rw [sm_append, k3, hla]
    by_cases hmod : (E + T) % xs[i].p = 0
    · rw [if_pos hmod, if_pos hmod]
      rw [hz i hi hmod]
      omega
    · rw [if_neg hmod, if_neg hmod, k2]
      by_cases ho : o = some i
      · rw [if_pos ho, if_pos ho]
        have := (hnn i ho).2
        omega
      · rw [if_neg ho, if_neg ho]
        omega
  · intro q hq
    rw [ee] at hq
    by_cases hqe : (q : Int) < endF rs
    · rw [hg.2.1 q (by omega) hqe]
      exact J.who q hqe
    · rw [hg.2.2 q (by omega) (by omega)]
      obtain ⟨s, hs⟩ : ∃ s, q = E + s := ⟨q - E, by omega⟩
      subst hs
      rw [(lr_stretch hp hmul (by omega) hb s (by omega)).2]
  · intro i hi z hz0 hze hzm
    by_cases hzE : z ≤ E
    · exact J.met i hi z hz0 (by omega) hzm
    · have h1 := hmul i hi z (by rw [pN_eq xs i hi]; exact hzm) (by omega)
      have hzz : z = E + T := by omega
      rw [hzz] at hzm
      have h2 := k12 i hi
      rw [hz i hi hzm] at h2
      obtain ⟨i1, i2⟩ := lr_stretch hp hmul (by omega) hb (T - 1) (by omega)
      rw [show z - 1 = E + (T - 1) by omega, i2, i1 i hi]
      by_cases ho : o = some i
      · rw [if_pos ho, if_pos ho]
        rw [if_pos ho] at h2
        omega
      · rw [if_neg ho, if_neg ho]
        rw [if_neg ho] at h2
        omega
end Go.Proofs.Ytkhlkbgolonkkaa
