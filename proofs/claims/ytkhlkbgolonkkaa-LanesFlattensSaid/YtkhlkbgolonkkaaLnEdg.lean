/- Lanes: byDeadline meets every deadline; who runs at which tick (plain mathematics). Own work. -/
import Derived.Test.YtkhlkbgolonkkaaLnEdf
namespace Go.Proofs.Ytkhlkbgolonkkaa
set_option linter.unusedVariables false
/-- what the first one's run leaves, summed up -/
theorem sm_ran (f : J4 → Bool) {x : J4} {ws : List J4} {t : Int} (hf : ∀ l, f ⟨x.n, x.r, x.d, l⟩ = f x) : sm f (ranF x ws t) = sm f (x :: ws) - (if f x = true then t else 0) := by
  unfold ranF
  split
  · rename_i h
    rw [sm_perm f (popF_perm _ _)]
    simp only [sm]
    split <;> omega
  · simp only [sm, hf]
    split <;> omega
theorem dueT_eq {xs : List R4} {j k e : Nat} (hj : j < xs.length) (hp : 1 ≤ xs[j].p) (h1 : k * xs[j].p ≤ e) (h2 : e < k * xs[j].p + xs[j].p) : dueT xs e j = k * xs[j].p + xs[j].p := by
  unfold dueT
  rw [pN_eq xs j hj]
  have : e / xs[j].p = k := by
    refine Nat.le_antisymm ?_ ?_
    · refine Nat.le_of_lt_succ ?_
      rw [Nat.div_lt_iff_lt_mul (by omega), Nat.succ_mul]
      exact h2
    · rw [Nat.le_div_iff_mul_le (by omega)]
      exact h1
  rw [this, Nat.succ_mul]
theorem subj_some (xs : List R4) (i : Nat) (h : i < xs.length) : subj xs (some i) = xs[i].s := by
  show (match xs[i]? with | some r => r.s | none => sN) = _
  rw [List.getElem?_eq_getElem h]
theorem ed_edf {m : Nat} {xs : List R4} (hx : NeedOk m xs) (hw : wantN m xs ≤ m) (hm : 1 ≤ m) (hc : (allJ m 0 xs).length ≤ 65536) {ws cs : List J4} {rs : List S3} (h : Ed m xs ws cs rs) : EdJ m xs ws cs rs := by
  induction h with
  | start js hp hs =>
    have e0 : endF [] = 0 := rfl
    have hr0 : ∀ x ∈ allJ m 0 xs, 0 ≤ x.r := fun x hxx => by
      obtain ⟨j, k, hj, hk, e⟩ := allJ_mem m xs 0 x hxx
      rw [e]
      exact Int.natCast_nonneg _
    refine ⟨fun i h0 h1 => by simp at h1, ⟨[], hp, (fun x hxx => by cases hxx)⟩, fun D hD => ?_, (fun x hxx => by cases hxx), fun _ i hi => ?_, trivial, (fun t ht => by rw [e0] at ht; omega), fun i hi z hz0 hz1 _ => by rw [e0] at hz1; omega⟩
    · rw [e0] at hD ⊢
      rw [List.nil_append, sm_perm _ hp, sm_congr (dueBy D) (inW 0 D) _ fun x hxx => ?_]
      · exact want_le hx hw hm (Int.le_refl _) hD
      · have := hr0 x hxx
        unfold dueBy inW
        congr 1
        apply propext
        exact ⟨fun a => ⟨this, a⟩, fun a => a.2⟩
    · have h1 := sm_allJ_at 0 xs 0 i hi hx
      rw [e0, List.nil_append, sm_perm _ hp, sm_congr (ofN (i : Int) 0) (isAt ((0 + i : Nat) : Int) ((0 : Nat) : Int)) _ fun x hxx => ?_, h1, if_pos ⟨by simp, by omega⟩]
      · show _ = ((bN xs i : Nat) : Int)
        rw [bN_eq xs i hi]
      · have := hr0 x hxx
        unfold ofN isAt
        congr 1
        apply propext
        constructor
        · rintro ⟨a, b⟩; exact ⟨by omega, by omega⟩
        · rintro ⟨a, b⟩; exact ⟨by omega, by omega⟩
  | push ws x cs rs h0 he ih =>
    have hpm : (upF (ws ++ [x]) ws.length ++ cs).Perm (ws ++ (x :: cs)) := by
      have := (upF_perm (ws ++ [x]) ws.length).append_right cs
      rw [List.append_assoc] at this
      exact this
    refine ⟨push_heap x ih.heap, ?_, fun D hD => ?_, fun y hy => ?_, fun hlt i hi => ?_, ih.gd, ih.who, ih.met⟩
    · obtain ⟨ds, hp, hr⟩ := ih.par
      refine ⟨x :: ds, ?_, fun y hy => ?_⟩
      · exact (List.perm_middle (a := x) (l₁ := ds) (l₂ := cs)).symm.trans hp
      · rcases List.mem_cons.1 hy with rfl | hy
        · omega
        · exact hr y hy
    · rw [sm_perm _ hpm]
      exact ih.dem D hD
    · have h1 := (upF_perm _ _).mem_iff.1 hy
      rcases List.mem_append.1 h1 with h1 | h1
      · exact ih.shape y h1
      · rw [List.mem_singleton.1 h1]
        obtain ⟨j, k, hj, hk, e⟩ := allJ_mem m xs 0 x (ih.cs_all x List.mem_cons_self)
        refine ⟨by omega, j, k, hj, ?_, ?_, ?_⟩
        · rw [e]; simp
        · rw [e]
        · rw [e]
    · rw [sm_perm _ hpm]
      exact ih.tick hlt i hi
  | idle cs rs h0 hd hlt ih =>
    have I := ed_inv hx hc h0
    have I' := ed_inv hx hc (Ed.idle cs rs h0 hd hlt)
    obtain ⟨n1, n2, n3⟩ := nextF_gt I hd hlt
    refine ed_adv (o := none) (t := nextF m cs - endF rs) hx I ih I' hd hlt (by omega) (by omega) rfl (fun i h0 h1 => by simp at h1) (fun i e he => by simp [sm]) (fun y hy => by cases hy) (fun D hD => ?_) (fun s hs => best_none fun i hi => ?_) (fun i e => by cases e)
    · rw [List.nil_append, sm_congr (dueBy D) (inW (nextF m cs) D) _ fun x hxx => ?_]
      · have := ih.static hx hw hm (s := nextF m cs) (D := D) (by have := I.e0; omega) (by omega)
        omega
      · have := n3 x hxx
        unfold dueBy inW
        congr 1
        apply propext
        exact ⟨fun a => ⟨this, a⟩, fun a => a.2⟩
    · have h1 := ih.tick hlt i hi
      rw [List.nil_append, sm_zero _ cs fun x hxx => ?_] at h1
      · show Lr xs (endF rs).toNat i - _ = 0
        omega
      · have := n3 x hxx
        rw [ofN, decide_eq_false_iff_not]
        rintro ⟨_, e⟩
        omega
  | run x ws cs rs hn t h0 hd hlt ht ih =>
    have I := ed_inv hx hc h0
    have I' := ed_inv hx hc (Ed.run x ws cs rs hn t h0 hd hlt ht)
    obtain ⟨n1, n2, n3⟩ := nextF_gt I hd hlt
    have hxo := I.ok x (.inl List.mem_cons_self)
    obtain ⟨j, hj⟩ : ∃ j : Nat, x.n = (j : Int) := ⟨x.n.toNat, by omega⟩
    have hjt : x.n.toNat = j := by omega
    have hjl : j < xs.length := by omega
    have hfirst := heap_head (x := x) (ws := ws) ih.heap
    have hl0 : ∀ y ∈ (x :: ws) ++ cs, 0 ≤ y.l := fun y hy => by
      have := I.ok y (List.mem_append.1 hy)
      omega
    -- a waiting job is not past its deadline
    have hlate : ∀ y ∈ x :: ws, endF rs < y.d := fun y hy => by
      refine Classical.byContradiction fun hne => ?_
      have h1 := ih.dem (endF rs) (Int.le_refl _)
      have h2 := sm_mem (dueBy (endF rs)) _ hl0 y (List.mem_append_left _ hy) (by rw [dueBy, decide_eq_true_eq]; omega)
      have h3 := I.ok y (.inl hy)
      omega
    obtain ⟨E, hE⟩ : ∃ E : Nat, endF rs = (E : Int) := ⟨(endF rs).toNat, by have := I.e0; omega⟩
    have hE2 : (endF rs).toNat = E := by omega
    have htk : ∀ i, i < xs.length → sm (ofN (i : Int) (endF rs)) (x :: ws) = (Lr xs E i : Int) := fun i hi => by
      have h1 := ih.tick hlt i hi
      rw [hE2, sm_append, sm_zero _ cs fun y hy => ?_] at h1
      · omega
      · have := n3 y hy
        rw [ofN, decide_eq_false_iff_not]
        rintro ⟨_, e⟩
        omega
    have hxr := (ih.shape x List.mem_cons_self).1
    have hLj : x.l ≤ (Lr xs E j : Int) := by
      rw [← htk j hjl]
      exact sm_mem _ _ (fun y hy => hl0 y (List.mem_append_left _ hy)) x List.mem_cons_self (by rw [ofN, decide_eq_true_eq]; exact ⟨hj, hxr⟩)
    -- the period of a waiting job is the present one
    have hdue : ∀ y ∈ x :: ws, ∀ i : Nat, y.n = (i : Int) → (dueT xs E i : Int) = y.d := fun y hy i hi => by
      obtain ⟨h1, j', k, hj', h2, h3, h4⟩ := ih.shape y hy
      have h5 := hlate y hy
      have hji : j' = i := by omega
      subst hji
      have h6 := hx _ (List.getElem_mem hj')
      rw [dueT_eq hj' (by omega) (k := k) (by omega) (by omega), h4]
    have hsub : xs[x.n.toNat].s = subj xs (some j) := by
      rw [subj_some xs j hjl]
      simp only [hjt]
    have hdec : ∀ D, decide (x.d ≤ D) = true → x.d ≤ D := fun D h => by simpa using h
    refine ed_adv (o := some j) (t := t) hx I ih I' hd hlt (by omega) (by omega) (by rw [hsub]) ?_ (fun i e he => ?_) (fun y hy => ?_) (fun D hD => ?_) (fun s hs => ?_) (fun i e => ?_)
    · unfold ranF
      split
      · exact pop_heap (left_heap ih.heap)
      · exact left_heap ih.heap
    · rw [sm_ran _ (fun l => rfl)]
      congr 1
      by_cases hij : j = i
      · subst hij
        rw [if_pos (by rw [ofN, decide_eq_true_eq]; exact ⟨hj, by omega⟩), if_pos rfl]
      · rw [if_neg (by rw [ofN, decide_eq_true_eq]; rintro ⟨a, _⟩; omega), if_neg (fun e => hij (Option.some.inj e))]
    · rcases ranF_mem hy with h | ⟨_, e⟩
      · exact ⟨y, List.mem_cons_of_mem _ h, rfl, rfl, rfl⟩
      · exact ⟨x, List.mem_cons_self, by rw [e], by rw [e], by rw [e]⟩
    · rw [sm_append, sm_ran _ (fun l => rfl)]
      have h1 := ih.dem D (by omega)
      rw [sm_append] at h1
      by_cases hxd : x.d ≤ D
      · rw [if_pos (by rw [dueBy, decide_eq_true_eq]; exact hxd)]
        omega
      · rw [if_neg (by rw [dueBy, decide_eq_true_eq]; exact hxd)]
        rw [sm_zero _ (x :: ws) fun y hy => ?_]
        · by_cases hDn : nextF m cs ≤ D
          · rw [sm_congr (dueBy D) (inW (nextF m cs) D) cs fun y hy => ?_]
            · have := ih.static hx hw hm (s := nextF m cs) (D := D) (by have := I.e0; omega) hDn
              omega
            · have := n3 y hy
              unfold dueBy inW
              congr 1
              apply propext
              exact ⟨fun a => ⟨this, a⟩, fun a => a.2⟩
          · rw [sm_zero _ cs fun y hy => ?_]
            · omega
            · have h5 := n3 y hy
              obtain ⟨j', k, hj', hk, e⟩ := allJ_mem m xs 0 y (ih.cs_all y hy)
              have h6 : y.r ≤ y.d := by rw [e]; simp only; omega
              rw [dueBy, decide_eq_false_iff_not]
              omega
        · have := hfirst y hy
          unfold leJ at this
          rw [dueBy, decide_eq_false_iff_not]
          omega
    · rw [hE2]
      refine best_is hjl ?_ fun i hi h0 => ?_
      · show 0 < Lr xs E j - (if some j = some j then s else 0)
        rw [if_pos rfl]
        omega
      · have h1 : 0 < Lr xs E i := Nat.lt_of_lt_of_le h0 (Nat.sub_le _ _)
        obtain ⟨y, hy, hf⟩ := sm_some _ (x :: ws) (by rw [htk i hi]; omega)
        rw [ofN, decide_eq_true_eq] at hf
        have h2 := hdue y hy i hf.1
        have h3 := hdue x List.mem_cons_self j hj
        have h4 := hfirst y hy
        unfold leJ at h4
        omega
    · cases e
      rw [hE2]
      exact ⟨hjl, by omega⟩
end Go.Proofs.Ytkhlkbgolonkkaa
