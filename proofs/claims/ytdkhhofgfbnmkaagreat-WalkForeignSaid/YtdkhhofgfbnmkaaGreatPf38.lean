import Derived.Test.YtdkhhofgfbnmkaaGreatPf20
import Derived.Test.YtdkhhofgfbnmkaaGreatPf14
/- What Leaves tells of a memory that stays as it is: a list that covers what is mapped. Plain mathematics. Own work. -/
namespace Go.Proofs.YtdkhhofgfbnmkaaGreat.Lv
open Wk
/-- looks that leave all as it was; what is told is kept -/
def lkL (f : Nat → Nat → Ent × Int) (s : List Slt) (fr i lev : Nat) : (Ent × Int) × List Slt := (f (fr + 8 * i) lev, s)
def ydL (s : List Slt) (x : Slt) : List Slt := s ++ [x]
def ctL (_ : List Slt) (_ : Slt) : Bool := true
/-- the entry at which an address ends -/
def leafG (f : Nat → Nat → Ent × Int) (v : Nat) : Nat → Nat → Nat → Ent × Int
  | 0, _, _ => (no, 42)
  | n + 1, l, t => if (f (t + 8 * (v / rch l % 512)) l).2 ≠ 0 ∨ (f (t + 8 * (v / rch l % 512)) l).1.2.1 = false then f (t + 8 * (v / rch l % 512)) l else leafG f v n (l + 1) (f (t + 8 * (v / rch l % 512)) l).1.1
/-- a list covers what g maps from lo up to hi -/
structure Cov (P : Nat → Ent × Int → Prop) (g : Nat → Ent × Int) (lo hi : Nat) (l : List Slt) : Prop where
  inn : ∀ x ∈ l, lo ≤ x.1 ∧ x.1 + rch x.2.1 ≤ hi ∧ x.2.1 ≤ 2 ∧ x.1 % rch x.2.1 = 0 ∧ x.2.2.1.2.1 = false ∧ x.2.2.2 ≠ 41 ∧ P x.2.1 x.2.2
  val : ∀ x ∈ l, ∀ v, x.1 ≤ v → v < x.1 + rch x.2.1 → g v = x.2.2
  ord : l.Pairwise (fun x y => x.1 + rch x.2.1 ≤ y.1)
  all : ∀ v, lo ≤ v → v < hi → (g v).2 = 41 ∨ ∃ x ∈ l, x.1 ≤ v ∧ v < x.1 + rch x.2.1
theorem Cov.empty (P : Nat → Ent × Int → Prop) (g : Nat → Ent × Int) (lo : Nat) : Cov P g lo lo [] :=
  ⟨by simp, by simp, List.Pairwise.nil, fun v h1 h2 => absurd h2 (by omega)⟩
theorem Cov.none {P : Nat → Ent × Int → Prop} {g : Nat → Ent × Int} {lo hi : Nat} (h : ∀ v, lo ≤ v → v < hi → (g v).2 = 41) : Cov P g lo hi [] :=
  ⟨by simp, by simp, List.Pairwise.nil, fun v h1 h2 => .inl (h v h1 h2)⟩
theorem Cov.congr {P : Nat → Ent × Int → Prop} {g g' : Nat → Ent × Int} {lo hi : Nat} {l : List Slt} (h : Cov P g lo hi l) (he : ∀ v, lo ≤ v → v < hi → g' v = g v) : Cov P g' lo hi l where
  inn := h.inn
  val := fun x hx v h1 h2 => by
    have := h.inn x hx
    rw [he v (by omega) (by omega), h.val x hx v h1 h2]
  ord := h.ord
  all := fun v h1 h2 => by rw [he v h1 h2]; exact h.all v h1 h2
theorem Cov.append {P : Nat → Ent × Int → Prop} {g : Nat → Ent × Int} {lo mid hi : Nat} {l1 l2 : List Slt} (h1 : Cov P g lo mid l1) (h2 : Cov P g mid hi l2) (ha : lo ≤ mid) (hb : mid ≤ hi) : Cov P g lo hi (l1 ++ l2) where
  inn := fun x hx => by
    rcases List.mem_append.1 hx with h | h
    · have := h1.inn x h
      exact ⟨by omega, by omega, this.2.2⟩
    · have := h2.inn x h
      exact ⟨by omega, by omega, this.2.2⟩
  val := fun x hx => by
    rcases List.mem_append.1 hx with h | h
    · exact h1.val x h
    · exact h2.val x h
  ord := List.pairwise_append.2 ⟨h1.ord, h2.ord, fun x hx y hy => by
    have := h1.inn x hx
    have := h2.inn y hy
    omega⟩
  all := fun v ha hb => by
    by_cases hm : v < mid
    · rcases h1.all v ha hm with h | ⟨x, hx, h⟩
      · exact .inl h
      · exact .inr ⟨x, List.mem_append.2 (.inl hx), h⟩
    · rcases h2.all v (by omega) hb with h | ⟨x, hx, h⟩
      · exact .inl h
      · exact .inr ⟨x, List.mem_append.2 (.inr hx), h⟩
theorem Cov.single {P : Nat → Ent × Int → Prop} {g : Nat → Ent × Int} {x : Slt} (h1 : x.2.1 ≤ 2) (h2 : x.1 % rch x.2.1 = 0) (h3 : x.2.2.1.2.1 = false) (h4 : x.2.2.2 ≠ 41) (h5 : P x.2.1 x.2.2) (hv : ∀ v, x.1 ≤ v → v < x.1 + rch x.2.1 → g v = x.2.2) : Cov P g x.1 (x.1 + rch x.2.1) [x] where
  inn := fun y hy => by
    have := List.mem_singleton.1 hy
    subst this
    exact ⟨Nat.le_refl _, Nat.le_refl _, h1, h2, h3, h4, h5⟩
  val := fun y hy => by
    have := List.mem_singleton.1 hy
    subst this
    exact hv
  ord := List.pairwise_singleton _ _
  all := fun v ha hb => .inr ⟨x, List.mem_singleton.2 rfl, ha, hb⟩
theorem rch_cases (lev : Nat) : rch lev = 1073741824 ∨ rch lev = 2097152 ∨ rch lev = 4096 := by
  unfold rch
  split
  · exact .inl rfl
  · split
    · exact .inr (.inl rfl)
    · exact .inr (.inr rfl)
theorem idx_at {lev virt i v : Nat} (hv : virt % (512 * rch lev) = 0) (hi : i < 512) (h1 : virt + i * rch lev ≤ v) (h2 : v < virt + (i + 1) * rch lev) : v / rch lev % 512 = i := by
  rcases rch_cases lev with h | h | h <;> rw [h] at hv h1 h2 ⊢ <;> omega
theorem rch_down {lev : Nat} (h : lev < 2) : 512 * rch (lev + 1) = rch lev := by
  have : lev = 0 ∨ lev = 1 := by omega
  rcases this with rfl | rfl <;> rfl
theorem tab_before {σ : Type} {lk : σ → Nat → Nat → Nat → (Ent × Int) × σ} {yd : σ → Slt → σ} {ct : σ → Slt → Bool} {deep : Nat → Nat → Nat → St σ → St σ} {fr virt lev i : Nat} {t : St σ} (h : (tabN lk yd ct deep fr virt lev (i + 1) t).go = true) : (tabN lk yd ct deep fr virt lev i t).go = true := by
  cases hc : (tabN lk yd ct deep fr virt lev i t).go with
  | true => rfl
  | false => rw [tabN, if_neg (by rw [hc]; decide)] at h; rw [← hc]; exact h
theorem tab_cov {f : Nat → Nat → Ent × Int} {P : Nat → Ent × Int → Prop} (hP : ∀ a l, l ≤ 2 → P l (f a l)) (hno : ∀ a l, (f a l).2 ≠ 0 → (f a l).1.2.1 = false) (h2 : ∀ a, (f a 2).1.2.1 = false) {deep : Nat → Nat → Nat → St (List Slt) → St (List Slt)} {n fr virt lev : Nat} (hv : virt % (512 * rch lev) = 0) (hlev : lev ≤ 2)
    (hd : lev < 2 → ∀ a b t, b % rch lev = 0 → (deep a b (lev + 1) t).go = true → ∃ l, (deep a b (lev + 1) t).s = t.s ++ l ∧ Cov P (fun v => leafG f v n (lev + 1) a) b (b + rch lev) l) (t : St (List Slt)) :
    ∀ i, i ≤ 512 → (tabN (lkL f) ydL ctL deep fr virt lev i t).go = true → ∃ l, (tabN (lkL f) ydL ctL deep fr virt lev i t).s = t.s ++ l ∧ Cov P (fun v => leafG f v (n + 1) lev fr) virt (virt + i * rch lev) l
  | 0, _, _ => ⟨[], by simp [tabN], by simpa using Cov.empty _ _ _⟩
  | i + 1, hi, hg => by
    have hg0 := tab_before hg
    obtain ⟨l, hs, hc⟩ := tab_cov hP hno h2 hv hlev hd t i (by omega) hg0
    rw [tabN_go hg0] at hg ⊢
    generalize tabN (lkL f) ydL ctL deep fr virt lev i t = T at hs hg hg0 ⊢
    have hmul : (i + 1) * rch lev = i * rch lev + rch lev := Nat.succ_mul _ _
    have hat : ∀ v, virt + i * rch lev ≤ v → v < virt + (i + 1) * rch lev → leafG f v (n + 1) lev fr = if (f (fr + 8 * i) lev).2 ≠ 0 ∨ (f (fr + 8 * i) lev).1.2.1 = false then f (fr + 8 * i) lev else leafG f v n (lev + 1) (f (fr + 8 * i) lev).1.1 := fun v a b => by
      rw [leafG, idx_at hv (by omega) a b]
    have hal : (virt + i * rch lev) % rch lev = 0 := by
      rw [Nat.add_mul_mod_self_right]
      exact Nat.mod_eq_zero_of_dvd (Nat.dvd_trans (Nat.dvd_mul_left _ _) (Nat.dvd_of_mod_eq_zero hv))
    unfold stepS at hg ⊢
    simp only [lkL] at hg ⊢
    obtain ⟨r, hr⟩ : ∃ r, r = f (fr + 8 * i) lev := ⟨_, rfl⟩
    have hn1 : r.2 ≠ 0 → r.1.2.1 = false := by rw [hr]; exact hno _ _
    have hn3 : P lev r := by rw [hr]; exact hP _ _ hlev
    have hn2 : lev = 2 → r.1.2.1 = false := fun e => by rw [hr, e]; exact h2 _
    simp only [← hr] at hat hg ⊢
    clear hr
    by_cases ha : r.2 = 41
    · rw [if_pos ha] at hg ⊢
      refine ⟨l, hs, ?_⟩
      have := hc.append (hi := virt + (i + 1) * rch lev) (l2 := []) (Cov.none fun v a b => ?_) (by omega) (by omega)
      · simpa using this
      · show (leafG f v (n + 1) lev fr).2 = 41
        rw [hat v a b, if_pos (.inl (by omega)), ha]
    · rw [if_neg ha] at hg ⊢
      cases ht : r.1.2.1 with
      | true =>
        have h0 : r.2 = 0 := by
          by_cases h : r.2 = 0
          · exact h
          · rw [hn1 h] at ht; exact absurd ht (by decide)
        have hl2 : lev < 2 := by
          by_cases h : lev = 2
          · rw [hn2 h] at ht; exact absurd ht (by decide)
          · omega
        have hx : visitS ydL ctL { s := T.s, left := T.left, go := T.go } (slotS virt lev i r) = { s := T.s, left := T.left - 1, go := decide (1 < T.left) } := by
          unfold visitS
          rw [if_pos (show (slotS virt lev i r).2.2.1.2.1 = true from ht)]
        rw [hx, ht] at hg
        rw [hx]
        cases hq : decide (1 < T.left) with
        | false => rw [hq] at hg; exact absurd hg (by simp)
        | true =>
          rw [hq] at hg
          simp only [Bool.and_self, if_true] at hg ⊢
          obtain ⟨l2, e2, c2⟩ := hd hl2 _ _ _ hal hg
          refine ⟨l ++ l2, by rw [e2]; show T.s ++ l2 = _; rw [hs, List.append_assoc], ?_⟩
          have c3 : Cov P (fun v => leafG f v (n + 1) lev fr) (virt + i * rch lev) (virt + i * rch lev + rch lev) l2 := c2.congr fun v a b => by
            show leafG f v (n + 1) lev fr = leafG f v n (lev + 1) r.1.1
            rw [hat v a (by omega), if_neg (by rw [h0, ht]; simp)]
          have := hc.append c3 (by omega) (by omega)
          rw [hmul, ← Nat.add_assoc]
          exact this
      | false =>
        have hx : visitS ydL ctL { s := T.s, left := T.left, go := T.go } (slotS virt lev i r) = { s := T.s ++ [slotS virt lev i r], left := T.left - 1, go := decide (1 < T.left) } := by
          unfold visitS
          rw [if_neg (by rw [show (slotS virt lev i r).2.2.1.2.1 = false from ht]; decide)]
          simp [ydL, ctL]
        rw [hx]
        simp only [Bool.and_false, Bool.false_eq_true, if_false]
        refine ⟨l ++ [slotS virt lev i r], by rw [hs, List.append_assoc], ?_⟩
        have c2 : Cov P (fun v => leafG f v (n + 1) lev fr) (virt + i * rch lev) (virt + i * rch lev + rch lev) [slotS virt lev i r] := Cov.single (x := slotS virt lev i r) hlev hal ht ha hn3 fun v a b => by
          have a' : virt + i * rch lev ≤ v := a
          have b' : v < virt + i * rch lev + rch lev := b
          show leafG f v (n + 1) lev fr = r
          rw [hat v a' (by omega), if_pos (.inr ht)]
        have := hc.append c2 (by omega) (by omega)
        rw [hmul, ← Nat.add_assoc]
        exact this
theorem deep2_cov {f : Nat → Nat → Ent × Int} {P : Nat → Ent × Int → Prop} (hP : ∀ a l, l ≤ 2 → P l (f a l)) (hno : ∀ a l, (f a l).2 ≠ 0 → (f a l).1.2.1 = false) (h2 : ∀ a, (f a 2).1.2.1 = false) (a b : Nat) (t : St (List Slt)) (hb : b % rch 1 = 0) (hg : (deep2 (lkL f) ydL ctL a b 2 t).go = true) : ∃ l, (deep2 (lkL f) ydL ctL a b 2 t).s = t.s ++ l ∧ Cov P (fun v => leafG f v 1 2 a) b (b + rch 1) l :=
  tab_cov hP hno h2 (n := 0) (lev := 2) hb (by omega) (fun h => absurd h (by omega)) t 512 (by omega) hg
theorem deep1_cov {f : Nat → Nat → Ent × Int} {P : Nat → Ent × Int → Prop} (hP : ∀ a l, l ≤ 2 → P l (f a l)) (hno : ∀ a l, (f a l).2 ≠ 0 → (f a l).1.2.1 = false) (h2 : ∀ a, (f a 2).1.2.1 = false) (a b : Nat) (t : St (List Slt)) (hb : b % rch 0 = 0) (hg : (deep1 (lkL f) ydL ctL a b 1 t).go = true) : ∃ l, (deep1 (lkL f) ydL ctL a b 1 t).s = t.s ++ l ∧ Cov P (fun v => leafG f v 2 1 a) b (b + rch 0) l :=
  tab_cov hP hno h2 (n := 1) (lev := 1) hb (by omega) (fun _ => deep2_cov hP hno h2) t 512 (by omega) hg
/-- what Leaves tells, where it comes to the end -/
theorem all_cov {f : Nat → Nat → Ent × Int} {P : Nat → Ent × Int → Prop} (hP : ∀ a l, l ≤ 2 → P l (f a l)) (hno : ∀ a l, (f a l).2 ≠ 0 → (f a l).1.2.1 = false) (h2 : ∀ a, (f a 2).1.2.1 = false) (root : Nat) (t : St (List Slt)) (hg : (allS (lkL f) ydL ctL root t).go = true) : ∃ l, (allS (lkL f) ydL ctL root t).s = t.s ++ l ∧ Cov P (fun v => leafG f v 3 0 root) 0 549755813888 l := by
  have := tab_cov hP hno h2 (n := 2) (fr := root) (virt := 0) (lev := 0) (Nat.zero_mod _) (by omega) (fun _ => deep1_cov hP hno h2) t 512 (by omega) hg
  simpa [rch, allS] using this
end Go.Proofs.YtdkhhofgfbnmkaaGreat.Lv
/- What Leaves tells, and where an address leads: over a memory that stays. Plain mathematics. Own work. -/
namespace Go.Proofs.YtdkhhofgfbnmkaaGreat.Lv
open Go.RowKit Go.Maps Go.Proofs.YtdkhhofgfbnmkaaGreat.Sp Wk
/-- what an entry of a level may say -/
def EOk (l : Nat) (r : Ent × Int) : Prop := (r.2 = 0 ∨ r.2 = 41 ∨ r.2 = 42) ∧ (r.2 ≠ 0 → r.1 = no) ∧ r.1.1 ≤ 4294963200 ∧ r.1.1 % 4096 = 0 ∧ (r.2 = 0 → r.1.2.1 = false → l ≠ 0 ∧ r.1.2.2.1 = decide (l = 1)) ∧ (l = 2 → r.1.2.1 = false)
theorem ent_ok (e : Nat) {l : Nat} (hl : l ≤ 2) : EOk l (entB e (l : Int)) := by
  unfold entB
  rw [if_neg (by omega)]
  split
  · exact ⟨.inr (.inl rfl), fun _ => rfl, by decide, by decide, fun h => absurd h (by simp), fun _ => rfl⟩
  · split
    · rename_i hs
      have hf : fr e ≤ 4294963200 ∧ fr e % 4096 = 0 := by unfold fr; omega
      refine ⟨.inl rfl, fun h => absurd rfl h, hf.1, hf.2, ?_, ?_⟩
      · intro _ ht
        have ht : ((l : Int) == 0 || ((l : Int) == 1 && !bit3 e)) = false := ht
        show l ≠ 0 ∧ bit3 e = decide (l = 1)
        rcases (show l = 0 ∨ l = 1 ∨ l = 2 by omega) with rfl | rfl | rfl
        · exact absurd ht (by simp)
        · refine ⟨by decide, ?_⟩
          simpa using ht
        · refine ⟨by decide, ?_⟩
          have : sound e 2 = true := hs
          unfold sound at this
          simp at this
          simpa using this.2
      · rintro rfl
        rfl
    · exact ⟨.inr (.inr rfl), fun _ => rfl, by decide, by decide, fun h => absurd h (by simp), fun _ => rfl⟩
theorem look_ok (rs : List Sp) (M : Nat → Nat) (a : Nat) {l : Nat} (hl : l ≤ 2) : EOk l (lookF rs M a (l : Int)) := by
  unfold lookF
  split
  · exact ent_ok _ hl
  · exact ⟨.inr (.inr rfl), fun _ => rfl, by decide, by decide, fun h => absurd h (by simp), fun _ => rfl⟩
theorem ent_no (e : Nat) (l : Int) (h : (entB e l).2 ≠ 0) : (entB e l).1.2.1 = false := by
  unfold entB at h ⊢
  split
  · rfl
  · split
    · rfl
    · split
      · rename_i h1 h2 h3
        rw [if_neg h1, if_neg h2, if_pos h3] at h
        exact absurd rfl h
      · rfl
theorem look_no (rs : List Sp) (M : Nat → Nat) (a l : Nat) (h : (lookF rs M a (l : Int)).2 ≠ 0) : (lookF rs M a (l : Int)).1.2.1 = false := by
  unfold lookF at h ⊢
  split
  · rename_i h1
    rw [if_pos h1] at h
    exact ent_no _ _ h
  · rfl
theorem rchP {l : Nat} (h : l ≤ 2) : 4096 * pgs l = rch l := by
  rcases (show l = 0 ∨ l = 1 ∨ l = 2 by omega) with rfl | rfl | rfl <;> rfl
theorem leafF_G (rs : List Sp) (M : Nat → Nat) (v : Nat) : ∀ n l t, n + l ≤ 3 → leafF rs M v n l t = leafG (fun a l => lookF rs M a (l : Int)) v n l t
  | 0, _, _, _ => rfl
  | n + 1, l, t, h => by
    rw [leafF, leafG, rchP (by omega), leafF_G rs M v n (l + 1) _ (by omega)]
/-- what is told where all is told -/
def Tells (rs : List Sp) (M : Nat → Nat) (root : Nat) (l : List Slt) : Prop := Cov EOk (fun v => leafF rs M v 3 0 root) 0 549755813888 l
theorem tells_of {rs : List Sp} {M : Nat → Nat} {root left : Nat} (hg : (allS (lkL (fun a l => lookF rs M a (l : Int))) ydL ctL root { s := [], left := left, go := true }).go = true) : Tells rs M root (allS (lkL (fun a l => lookF rs M a (l : Int))) ydL ctL root { s := [], left := left, go := true }).s := by
  obtain ⟨l, e, h⟩ := all_cov (P := EOk) (fun a l hl => look_ok rs M a hl) (look_no rs M) (fun a => (look_ok rs M a (Nat.le_refl 2)).2.2.2.2.2 rfl) root _ hg
  rw [e]
  exact h.congr fun v _ _ => leafF_G rs M v 3 0 root (by omega)
theorem tells_bad {rs : List Sp} {M : Nat → Nat} {root : Nat} {l : List Slt} (h : Tells rs M root l) (hr : root % 4096 = 0) {x : Slt} (hx : x ∈ l) {v : Nat} (h1 : x.1 ≤ v) (h2 : v < x.1 + rch x.2.1) (hw : x.2.2.2 ≠ 0) {acc : Int} (ha : acc = 1 ∨ acc = 2 ∨ acc = 3) : adrF rs M root v acc = (0, 42) := by
  have hi := h.inn x hx
  have hv := h.val x hx v h1 h2
  have : x.2.2.2 = 42 := by
    have := hi.2.2.2.2.2.2.1
    have := hi.2.2.2.2.2.1
    omega
  unfold adrF
  rw [if_neg (by omega), if_neg (by omega), if_neg (by omega)]
  have hv : leafF rs M v 3 0 root = x.2.2 := hv
  rw [hv]
  unfold addrB
  rw [if_pos hw, this]
theorem tells_at {rs : List Sp} {M : Nat → Nat} {root : Nat} {l : List Slt} (h : Tells rs M root l) (hr : root % 4096 = 0) {x : Slt} (hx : x ∈ l) {v : Nat} (h1 : x.1 ≤ v) (h2 : v < x.1 + rch x.2.1) (hw : x.2.2.2 = 0) {acc : Int} (ha : acc = 1 ∨ acc = 2 ∨ acc = 3) : adrF rs M root v acc = if acc = 2 ∧ x.2.2.1.2.2.2.1 = false then (0, 43) else if acc = 3 ∧ x.2.2.1.2.2.2.2 = false then (0, 44) else (x.2.2.1.1 + (v - x.1), 0) := by
  obtain ⟨i1, i2, i3, i4, i5, i6, i7⟩ := h.inn x hx
  have hv : leafF rs M v 3 0 root = x.2.2 := h.val x hx v h1 h2
  obtain ⟨k1, k2⟩ := i7.2.2.2.2.1 hw i5
  unfold adrF
  rw [if_neg (by omega), if_neg (by omega), if_neg (by omega), hv]
  unfold addrB
  rw [if_neg (by omega)]
  split
  · rfl
  · split
    · rfl
    · rcases (show x.2.1 = 1 ∨ x.2.1 = 2 by omega) with e | e
      · rw [e] at k2 i4 h2
        have : rch 1 = 2097152 := rfl
        rw [if_pos (by rw [k2]; decide)]
        rw [this] at i4 h2
        rw [show v % 2097152 = v - x.1 by omega]
      · rw [e] at k2 i4 h2
        have : rch 2 = 4096 := rfl
        rw [if_neg (by rw [k2]; decide)]
        rw [this] at i4 h2
        rw [show v % 4096 = v - x.1 by omega]
theorem tells_none {rs : List Sp} {M : Nat → Nat} {root : Nat} {l : List Slt} (h : Tells rs M root l) (hr : root % 4096 = 0) {v : Nat} (hv : v < 549755813888) (hn : ∀ x ∈ l, ¬ (x.1 ≤ v ∧ v < x.1 + rch x.2.1)) {acc : Int} (ha : acc = 1 ∨ acc = 2 ∨ acc = 3) : adrF rs M root v acc = (0, 41) := by
  have : (leafF rs M v 3 0 root).2 = 41 := by
    rcases h.all v (Nat.zero_le _) hv with e | ⟨x, hx, hh⟩
    · exact e
    · exact absurd hh (hn x hx)
  unfold adrF
  rw [if_neg (by omega), if_neg (by omega), if_neg (by omega)]
  unfold addrB
  rw [if_pos (by omega), this]
end Go.Proofs.YtdkhhofgfbnmkaaGreat.Lv
