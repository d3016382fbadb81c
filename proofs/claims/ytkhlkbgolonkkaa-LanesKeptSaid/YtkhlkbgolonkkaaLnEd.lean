/- Lanes: earliest deadline first, step by step (plain mathematics). Own work. -/
import Derived.Test.YtkhlkbgolonkkaaLnPerm
import Derived.Test.YtkhlkbgolonkkaaLnJbs
import Derived.Test.YtkhlkbgolonkkaaLnInT
namespace Go.Proofs.Ytkhlkbgolonkkaa
set_option linter.unusedVariables false
/-- when the next job is released -/
def nextF (m : Nat) : List J4 → Int
  | [] => (m : Int)
  | x :: _ => x.r
/-- the first one that comes is not released now -/
def dueN (e : Int) : List J4 → Prop
  | [] => True
  | x :: _ => x.r ≠ e
/-- what waits when the first one has run -/
def ranF (x : J4) (ws : List J4) (t : Int) : List J4 := if x.l - t = 0 then (popF (⟨x.n, x.r, x.d, x.l - t⟩ :: ws)).dropLast else ⟨x.n, x.r, x.d, x.l - t⟩ :: ws
/-- where earliest deadline first may stand: what waits, what comes, the slots -/
inductive Ed (m : Nat) (xs : List R4) : List J4 → List J4 → List S3 → Prop where
  | start (js : List J4) : js.Perm (allJ m 0 xs) → js.Pairwise (fun x y => x.r ≤ y.r) → Ed m xs [] js []
  | push (ws : List J4) (x : J4) (cs : List J4) (rs : List S3) : Ed m xs ws (x :: cs) rs → x.r = endF rs → Ed m xs (upF (ws ++ [x]) ws.length) cs rs
  | idle (cs : List J4) (rs : List S3) : Ed m xs [] cs rs → dueN (endF rs) cs → endF rs < (m : Int) → Ed m xs [] cs (adds rs sN (nextF m cs - endF rs))
  | run (x : J4) (ws cs : List J4) (rs : List S3) (h : x.n.toNat < xs.length) (t : Int) : Ed m xs (x :: ws) cs rs → dueN (endF rs) cs → endF rs < (m : Int) → t = min x.l (nextF m cs - endF rs) → Ed m xs (ranF x ws t) cs (adds rs xs[x.n.toNat].s t)
/-- what always holds there -/
structure EdI (m : Nat) (xs : List R4) (ws cs : List J4) (rs : List S3) : Prop where
  ok : ∀ x, x ∈ ws ∨ x ∈ cs → 0 ≤ x.n ∧ x.n < (xs.length : Int) ∧ 0 ≤ x.r ∧ x.r < (m : Int) ∧ 1 ≤ x.l ∧ x.l ≤ 65536
  srt : cs.Pairwise (fun x y => x.r ≤ y.r)
  ge : ∀ x ∈ cs, endF rs ≤ x.r
  e0 : 0 ≤ endF rs
  e1 : endF rs ≤ (m : Int)
  len : ws.length + cs.length ≤ 65536
  slots : (rs.length : Int) ≤ endF rs
theorem jobsI_mem {m i : Nat} {r : R4} {q : Nat} {x : J4} (h : x ∈ jobsI m i r q) : ∃ k, k < q ∧ x = ⟨(i : Int), ((k * r.p : Nat) : Int), ((k * r.p + r.p : Nat) : Int), (r.b : Int)⟩ := by
  unfold jobsI at h
  obtain ⟨k, hk, e⟩ := List.mem_map.1 h
  exact ⟨k, List.mem_range.1 hk, e.symm⟩
theorem allJ_mem (m : Nat) : ∀ (xs : List R4) (i : Nat) (x : J4), x ∈ allJ m i xs → ∃ (j k : Nat) (h : j < xs.length), k < m / xs[j].p ∧ x = ⟨((i + j : Nat) : Int), ((k * xs[j].p : Nat) : Int), ((k * xs[j].p + xs[j].p : Nat) : Int), (xs[j].b : Int)⟩
  | [], i, x, h => by cases h
  | r :: rs, i, x, h => by
    rcases List.mem_append.1 h with h | h
    · obtain ⟨k, hk, e⟩ := jobsI_mem h
      exact ⟨0, k, by simp, hk, e⟩
    · obtain ⟨j, k, hj, hk, e⟩ := allJ_mem m rs (i + 1) x h
      refine ⟨j + 1, k, by simpa using hj, hk, ?_⟩
      rw [e, show i + 1 + j = i + (j + 1) by omega]
      rfl
/-- needs that may be -/
def NeedOk (m : Nat) (xs : List R4) : Prop := ∀ r ∈ xs, 1 ≤ r.b ∧ r.b ≤ 65536 ∧ 1 ≤ r.p ∧ r.p ≤ 65536 ∧ m % r.p = 0
theorem nextF_gt {m : Nat} {xs : List R4} {ws cs : List J4} {rs : List S3} (h : EdI m xs ws cs rs) (hd : dueN (endF rs) cs) (hm : endF rs < (m : Int)) : endF rs < nextF m cs ∧ nextF m cs ≤ (m : Int) ∧ ∀ x ∈ cs, nextF m cs ≤ x.r := by
  cases cs with
  | nil => exact ⟨hm, Int.le_refl _, fun x hx => by cases hx⟩
  | cons c cs =>
    have h1 := h.ge c (List.mem_cons_self)
    have h2 := h.ok c (.inr List.mem_cons_self)
    have h3 : c.r ≠ endF rs := hd
    refine ⟨by show endF rs < c.r; omega, by show c.r ≤ m; omega, fun x hx => ?_⟩
    rcases List.mem_cons.1 hx with rfl | hx
    · exact Int.le_refl _
    · exact (List.pairwise_cons.1 h.srt).1 x hx
theorem ranF_mem {x y : J4} {ws : List J4} {t : Int} (h : y ∈ ranF x ws t) : y ∈ ws ∨ (x.l - t ≠ 0 ∧ y = ⟨x.n, x.r, x.d, x.l - t⟩) := by
  unfold ranF at h
  split at h
  · exact .inl ((popF_perm _ _).mem_iff.1 h)
  · rename_i h0
    rcases List.mem_cons.1 h with e | h
    · exact .inr ⟨h0, e⟩
    · exact .inl h
theorem ranF_len (x : J4) (ws : List J4) (t : Int) : (ranF x ws t).length ≤ ws.length + 1 := by
  unfold ranF
  split
  · rw [(popF_perm _ _).length_eq]; omega
  · simp
theorem ed_inv {m : Nat} {xs : List R4} (hx : NeedOk m xs) (hc : (allJ m 0 xs).length ≤ 65536) {ws cs : List J4} {rs : List S3} (h : Ed m xs ws cs rs) : EdI m xs ws cs rs := by
  induction h with
  | start js hp hs =>
    refine ⟨fun x hxx => ?_, hs, fun x hxx => ?_, Int.le_refl _, Int.natCast_nonneg _, by rw [hp.length_eq]; simpa using hc, Int.le_refl _⟩
    · rcases hxx with h | h
      · cases h
      · obtain ⟨j, k, hj, hk, e⟩ := allJ_mem m xs 0 x (hp.mem_iff.1 h)
        have h1 := hx _ (List.getElem_mem hj)
        generalize xs[j] = r at *
        have h2 : k * r.p < m := Nat.lt_of_lt_of_le (Nat.mul_lt_mul_of_pos_right hk (by omega)) (Nat.div_mul_le_self m r.p)
        rw [e]
        simp only
        omega
    · obtain ⟨j, k, hj, hk, e⟩ := allJ_mem m xs 0 x (hp.mem_iff.1 hxx)
      rw [e]
      show (0 : Int) ≤ _
      exact Int.natCast_nonneg _
  | push ws x cs rs _ he ih =>
    refine ⟨fun y hy => ?_, (List.pairwise_cons.1 ih.srt).2, fun y hy => ih.ge y (List.mem_cons_of_mem _ hy), ih.e0, ih.e1, ?_, ih.slots⟩
    · rcases hy with hy | hy
      · have h1 := (upF_perm _ _).mem_iff.1 hy
        rcases List.mem_append.1 h1 with h1 | h1
        · exact ih.ok y (.inl h1)
        · rw [List.mem_singleton.1 h1]
          exact ih.ok x (.inr List.mem_cons_self)
      · exact ih.ok y (.inr (List.mem_cons_of_mem _ hy))
    · have := ih.len
      rw [upF_length, List.length_append, List.length_singleton]
      simp only [List.length_cons] at this
      omega
  | idle cs rs _ hd hm ih =>
    obtain ⟨n1, n2, n3⟩ := nextF_gt ih hd hm
    have ee := adds_end rs sN (nextF m cs - endF rs)
    have el := adds_len rs sN (nextF m cs - endF rs)
    have h1 := ih.slots
    have h2 := ih.e0
    exact ⟨ih.ok, ih.srt, fun y hy => by have := n3 y hy; omega, by omega, by omega, ih.len, by omega⟩
  | run x ws cs rs hn t _ hd hm ht ih =>
    obtain ⟨n1, n2, n3⟩ := nextF_gt ih hd hm
    have ee := adds_end rs xs[x.n.toNat].s t
    have el := adds_len rs xs[x.n.toNat].s t
    have h1 := ih.slots
    have h2 := ih.e0
    have h3 := ih.ok x (.inl List.mem_cons_self)
    have h4 := ranF_len x ws t
    have h5 := ih.len
    simp only [List.length_cons] at h5
    refine ⟨fun y hy => ?_, ih.srt, fun y hy => by have := n3 y hy; omega, by omega, by omega, by omega, by omega⟩
    rcases hy with hy | hy
    · rcases ranF_mem hy with h | ⟨h, e⟩
      · exact ih.ok y (.inl (List.mem_cons_of_mem _ h))
      · rw [e]
        simp only
        omega
    · exact ih.ok y (.inr hy)
end Go.Proofs.Ytkhlkbgolonkkaa
