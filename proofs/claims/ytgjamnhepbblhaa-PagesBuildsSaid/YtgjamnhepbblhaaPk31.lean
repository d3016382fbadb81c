import Derived.Test.YtgjamnhepbblhaaPk21
import Derived.Test.YtgjamnhepbblhaaPk07
/- Pages: rows of tables that grow. Own work. -/
namespace Go.Proofs.Ytgjamnhepbblhaa
open Go.RowKit Wk
set_option linter.unusedVariables false
set_option maxRecDepth 20000
theorem t_slice (f : Nat → Nat) (W : World) : (Instr.buildSlice 48 1 #[(0, .agg (tabV f))]).run Try.prog W = .ok (.slice (some ⟨W.heap.size, 0, none⟩) 1 1) (W.alloc (.cells (tabV f) 40)) := by
  have hinfo := info_tab
  have hZs := tabV_size (fun _ => 0)
  generalize tabV (fun _ => 0) = Z at hinfo hZs
  obtain ⟨i, hi, hz0, hz1, hz2⟩ := info_parts hinfo
  have hQ := tabV_size f
  generalize tabV f = Q at *
  refine run_buildSlice W _ 40 1 _ _ i _ Try.underlying48 hi hz0 (by rw [hz1]; decide) (by rw [hz1]; decide) ?_
  rw [hz1]
  exact fill_one (by decide) hQ (by simp)
theorem wpList_tslice {ops : Array Oper} {rest : List Oper} {o : Oper} {a : Act} {w : World} {Q : Exit → Act → World → Prop} (hgd : o.guard = none) (parts : Array (Nat × Operand)) (ho : o.op = .buildSlice 48 1 parts) (vals : Array (Nat × Value)) (hv : (parts.map fun (i, x) => (i, a.eval x)) = vals) {q : Array Value} (hr : ∀ W, (Instr.buildSlice 48 1 vals).run Try.prog W = .ok (.slice (some ⟨W.heap.size, 0, none⟩) 1 1) (W.alloc (.cells q 40))) (h : wpList Try.prog ops Q rest (a.put o.dst (.slice (some ⟨w.heap.size, 0, none⟩) 1 1)) (w.alloc (.cells q 40))) : wpList Try.prog ops Q (o :: rest) a w :=
  wpList_plain hgd fun K hK => by
    unfold Oper.wp execOp
    simp only [ho, Sem.run_bind, Sem.run_pure, Result.andThen_ok, hv, hr]
    exact hK _ _ h
/-- the entries of one of the document's tables, by value -/
theorem OwnQ.loads {w : World} {base g k cap : Nat} {ts : List (Nat × Nat)} {E : Nat → Nat} (h : OwnQ w base (.slice (some ⟨g, 0, none⟩) k cap) ts E) (hk : ts.length = k) {i : Nat} (hi : i < k) : (Instr.loadAt 39 (.pointer (some ⟨g, i * 514 + 2, none⟩))).run Try.prog w = .ok (.agg (tabV fun j => E (i * 512 + j))) w := by
  subst hk
  have hu : Try.prog.underlying 39 = some (.array 512 23) := by kernel_rfl
  have hs : (Try.prog.info? 39).map (·.size) = some 512 := by kernel_rfl
  have := run_loadAt_mid (P := Try.prog) w g (i * 514 + 2) 39 (tabV fun j => E (i * 512 + j)).toList (.array 512 23) (fun j v hv => by
    have hj : j < 512 := by have := (List.getElem?_eq_some_iff.1 hv).1; rw [Array.length_toList, tabV_size] at this; exact this
    rw [show i * 514 + 2 + j = i * 514 + (j + 2) by omega, h.cell hi (by omega)]
    rw [Array.getElem?_toList, tabV_get _ hj] at hv
    rw [← hv]
    unfold cq
    rw [if_neg (by omega), if_neg (by omega), show j + 2 - 2 = j by omega]) hu rfl (by rw [Array.length_toList, tabV_size]; exact hs)
  simpa using this
theorem wpList_load_arr {ops : Array Oper} {rest : List Oper} {o : Oper} {a : Act} {w : World} {Q : Exit → Act → World → Prop} (hgd : o.guard = none) (x : Operand) (ho : o.op = .load 39 x) {p V : Value} (hx : a.eval x = p) (hl : (Instr.loadAt 39 p).run Try.prog w = .ok V w) (hk : wpList Try.prog ops Q rest (a.put o.dst V) w) : wpList Try.prog ops Q (o :: rest) a w :=
  wpList_plain hgd fun K hK => by
    unfold Oper.wp execOp
    simp only [ho, hx, Sem.run_bind, Sem.run_pure, Result.andThen_ok, hl]
    exact hK _ _ hk
/-- a row of so many tables -/
def OwnTb (w : World) (base : Nat) (v : Value) (n : Nat) : Prop := ∃ Ls, w.ownsRow base 40 512 v n Ls
theorem OwnTb.nil (w : World) (base : Nat) : OwnTb w base (.slice none 0 0) 0 := ⟨[], rfl, .inl ⟨rfl, rfl⟩⟩
theorem OwnTb.lt {w : World} {base : Nat} {v : Value} {n : Nat} (h : OwnTb w base v n) : ∀ k, v.ownBlock = some k → base ≤ k ∧ k < w.heap.size := by
  obtain ⟨Ls, h⟩ := h
  exact World.ownsRow.lt h
theorem OwnTb.below {w w' : World} {base : Nat} {v : Value} {n : Nat} (h : OwnTb w base v n) (hb : Below w.heap.size w w') : OwnTb w' base v n := by
  obtain ⟨Ls, h⟩ := h
  refine ⟨Ls, h.1, ?_⟩
  rcases h.2 with hv | ⟨g, cap, cur, rfl, hb', hgg, rest⟩
  · exact .inl hv
  · refine .inr ⟨g, cap, cur, rfl, hb', ?_, rest⟩
    rw [hb.block g (Array.getElem?_eq_some_iff.1 hgg).1]
    exact hgg
theorem OwnTb.form {w : World} {base : Nat} {v : Value} {n : Nat} (h : OwnTb w base v n) : ∃ a c, v = .slice a n c := by
  obtain ⟨Ls, h⟩ := h
  rcases h.2 with ⟨rfl, h0⟩ | ⟨g, cap, cur, rfl, _⟩
  · exact ⟨none, 0, by rw [h0]⟩
  · exact ⟨_, _, rfl⟩
theorem wpList_appendTb {w : World} {base : Nat} {ops : Array Oper} {rest : List Oper} {o : Oper} {a : Act} {Q : Exit → Act → World → Prop} (hgd : o.guard = none) (s x : Operand)
    (ho : o.op = .call { callee := .builtin .append, args := #[s, x], argTypes := #[48, 48] }) {v : Value} {n : Nat} {f : Nat → Nat} {q : Array Value} (hq : q = tabV f) {g cap : Nat} (hown : OwnTb w base v n) (hs : a.eval s = v) (hx : a.eval x = .slice (some ⟨g, 0, none⟩) 1 cap) (hg : w.heap[g]? = some (.cells q 40 (0, 0))) (hb : n ≤ 2000) (hbase : base ≤ w.heap.size)
    (h : ∀ v' w', Hid (OwnTb w' base v' (n + 1)) → Hid (w.grownBy w' v.ownBlock) → wpList Try.prog ops Q rest (a.put o.dst v') w') : wpList Try.prog ops Q (o :: rest) a w :=
  wpList_plain hgd fun K hK => by
    have hinfo := info_tab
    have hZs := tabV_size (fun _ => 0)
    generalize tabV (fun _ => 0) = Z at hinfo hZs
    have hqs : q.size = 512 := by rw [hq]; exact tabV_size f
    have hq1 : ∀ u ∈ q.toList, u.oneCell' = true := by
      intro u hu
      have := tabV_one f
      rw [← hq, Array.all_eq_true'] at this
      exact this u (Array.mem_toList_iff.1 hu)
    clear hq
    obtain ⟨Ls, hown⟩ := hown
    obtain ⟨i, hi, hz0, hz1, hz2⟩ := info_parts hinfo
    obtain ⟨v', w', r1, r2, r3, _, r5⟩ := run_append_own_at (P := Try.prog) w base 48 o.type 40 i (.agg Z) 512 4096 Try.underlying48 hi hz0 hz1 hz2 hZs (by omega) v n Ls hown ⟨g, 0, none⟩ 1 cap q.toList (by rw [Array.length_toList, hqs]) (fun j u hj => by
      rw [Addr.add_lit, Nat.zero_add, cell_of_row _ _ _ _ _ _ hg, ← Array.getElem?_toList]
      exact hj) hq1 (by unfold maxLen; omega) (by omega) hbase
    unfold Oper.wp execOp
    simp only [ho, resolve, invoke, builtin, Sem.run_bind, Sem.run_pure, Result.andThen_ok, List.map_toArray, List.map_cons, List.map_nil, hs, hx, r1]
    exact hK _ _ (h v' w' ⟨_, r2⟩ r3)
end Go.Proofs.Ytgjamnhepbblhaa
/- Pages: the tables hold the leaves, and no other. Own work. -/
namespace Go.Proofs.Ytgjamnhepbblhaa
open Go.RowKit Wk
set_option linter.unusedVariables false
set_option maxRecDepth 20000
theorem val_pos (u : Un) : u.val ≠ 0 := by unfold Un.val; omega
theorem stepU_L {base : Nat} {s : Bst} {u : Un} : (stepU base s u).L1 = (if u.big = true then putM s.L1 (u.v / 2097152) u.val else s.L1) ∧ (stepU base s u).L2 = (if u.big = true then s.L2 else putM s.L2 (u.v / 4096) u.val) := by
  obtain ⟨_, _, r3, r4, _, _⟩ := step1_rest (base := base) (s := s) (v := u.v)
  obtain ⟨_, _, q3, q4, _, _⟩ := step2_rest (base := base) (s := step1 base s u.v) (v := u.v)
  unfold stepU downS leafS
  by_cases hb : u.big = true
  · rw [if_pos hb, if_pos hb, if_pos hb, if_pos hb]
    exact ⟨by rw [← r3], r4⟩
  · rw [if_neg hb, if_neg hb, if_neg hb, if_neg hb]
    exact ⟨q3.trans r3, by rw [← r4, ← q4]⟩
/-- the leaves that stand in the tables are just these -/
structure Kn (us : List Un) (s : Bst) : Prop where
  b1 : ∀ u ∈ us, u.big = true → s.L1 (u.v / 2097152) = u.val
  s1 : ∀ u ∈ us, u.big = false → s.L2 (u.v / 4096) = u.val
  b2 : ∀ b, s.L1 b ≠ 0 → ∃ u ∈ us, u.big = true ∧ u.v / 2097152 = b ∧ s.L1 b = u.val
  s2 : ∀ c, s.L2 c ≠ 0 → ∃ u ∈ us, u.big = false ∧ u.v / 4096 = c ∧ s.L2 c = u.val
  nb : ∀ b, s.L1 b ≠ 0 → s.B b = false
theorem stepU_B {base : Nat} {s : Bst} {u : Un} : (u.big = true → (stepU base s u).B = s.B) ∧ (∀ b, b ≠ u.v / 2097152 → (stepU base s u).B b = s.B b) := by
  obtain ⟨_, _, _, _, r5, _⟩ := step1_rest (base := base) (s := s) (v := u.v)
  have q : ∀ s' : Bst, (leafS s' u).B = s'.B := by intro s'; unfold leafS; split <;> rfl
  unfold stepU
  rw [q]
  unfold downS
  by_cases hb : u.big = true
  · rw [if_pos hb]
    exact ⟨fun _ => r5, fun b _ => by rw [r5]⟩
  · rw [if_neg hb]
    refine ⟨fun e => absurd e hb, fun b e => ?_⟩
    rw [← r5]
    unfold step2
    split
    · rfl
    · show putB (step1 base s u.v).B (u.v / 2097152) b = _
      exact putB_ne _ e
theorem kn0 : Kn [] bst0 := by
  refine ⟨?_, ?_, ?_, ?_, ?_⟩
  · intro u h; cases h
  · intro u h; cases h
  · intro b h; exact absurd rfl h
  · intro b h; exact absurd rfl h
  · intro b h; rfl
theorem Kn.step {base t : Nat} {us : List Un} {s : Bst} (h : Kn us s) (hc : Cl base s) (hu : Up t s) {u : Un} (ht : t ≤ u.v) (hal : u.v % u.len = 0) : Kn (us ++ [u]) (stepU base s u) := by
  obtain ⟨e1, e2⟩ := stepU_L (base := base) (s := s) (u := u)
  have hk1 : ∀ b, s.L1 b ≠ 0 → b ≠ u.v / 2097152 := fun b hb => by have := hu.l1 b hb; omega
  have hk2 : ∀ c, s.L2 c ≠ 0 → c ≠ u.v / 4096 := fun c hc => by have := hu.l2 c hc; omega
  by_cases hb : u.big = true
  · rw [if_pos hb] at e1 e2
    refine ⟨?_, ?_, ?_, ?_, ?_⟩
    · intro x hx hxb
      rw [e1]
      rcases List.mem_append.1 hx with hx | hx
      · have h5 := h.b1 x hx hxb
        rw [putM_ne _ (hk1 _ (by rw [h5]; exact val_pos x))]
        exact h5
      · rw [List.mem_singleton.1 hx, putM_at]
    · intro x hx hxb
      rw [e2]
      rcases List.mem_append.1 hx with hx | hx
      · exact h.s1 x hx hxb
      · rw [List.mem_singleton.1 hx, hb] at hxb
        cases hxb
    · intro b hz
      rw [e1] at hz ⊢
      by_cases e : b = u.v / 2097152
      · subst e
        exact ⟨u, by simp, hb, rfl, putM_at _ _ _⟩
      · rw [putM_ne _ e] at hz ⊢
        obtain ⟨x, hx, a1, a2, a3⟩ := h.b2 b hz
        exact ⟨x, by simp [hx], a1, a2, a3⟩
    · intro c hz
      rw [e2] at hz ⊢
      obtain ⟨x, hx, a1, a2, a3⟩ := h.s2 c hz
      exact ⟨x, by simp [hx], a1, a2, a3⟩
    · intro b hz
      rw [e1] at hz
      rw [(stepU_B (base := base) (s := s) (u := u)).1 hb]
      by_cases e : b = u.v / 2097152
      · have hlen : u.len = 2097152 := by unfold Un.len; rw [hb]; rfl
        rw [hlen] at hal
        cases hB : s.B b with
        | false => rfl
        | true =>
          have hlt := hc.hB b hB
          have hup := hu.u1 (by omega)
          exfalso
          omega
      · rw [putM_ne _ e] at hz
        exact h.nb b hz
  · rw [if_neg hb] at e1 e2
    have hbf : u.big = false := by simpa using hb
    refine ⟨?_, ?_, ?_, ?_, ?_⟩
    · intro x hx hxb
      rw [e1]
      rcases List.mem_append.1 hx with hx | hx
      · exact h.b1 x hx hxb
      · rw [List.mem_singleton.1 hx] at hxb
        exact absurd hxb hb
    · intro x hx hxb
      rw [e2]
      rcases List.mem_append.1 hx with hx | hx
      · have h5 := h.s1 x hx hxb
        rw [putM_ne _ (hk2 _ (by rw [h5]; exact val_pos x))]
        exact h5
      · rw [List.mem_singleton.1 hx, putM_at]
    · intro b hz
      rw [e1] at hz ⊢
      obtain ⟨x, hx, a1, a2, a3⟩ := h.b2 b hz
      exact ⟨x, by simp [hx], a1, a2, a3⟩
    · intro c hz
      rw [e2] at hz ⊢
      by_cases e : c = u.v / 4096
      · subst e
        exact ⟨u, by simp, hbf, rfl, putM_at _ _ _⟩
      · rw [putM_ne _ e] at hz ⊢
        obtain ⟨x, hx, a1, a2, a3⟩ := h.s2 c hz
        exact ⟨x, by simp [hx], a1, a2, a3⟩
    · intro b hz
      rw [e1] at hz
      rw [(stepU_B (base := base) (s := s) (u := u)).2 b (hk1 b hz)]
      exact h.nb b hz
theorem kn_row {base t : Nat} {us : List Un} {s : Bst} {x : L6} (hx : aloneF x = 0) (ht : t ≤ x.v) (hc : Cl base s) (hu : Up t s) (h : Kn us s) : ∀ i, i ≤ cntU x → Kn (us ++ unitsN x i) (buildU base s (unitsN x i))
  | 0, _ => by
    have e : us ++ unitsN x 0 = us := by simp [unitsN]
    rw [e]
    exact h
  | i + 1, hi => by
    have ih := kn_row hx ht hc hu h i (by omega)
    obtain ⟨c, u⟩ := row_good hx ht hc hu i (by omega)
    rw [buildU_succ, unitsN_succ, ← List.append_assoc]
    refine ih.step c u (u := unitAt x i) (Nat.le_refl _) ?_
    rw [unitAt_len]
    show (x.v + i * unitF x) % unitF x = 0
    rw [Nat.add_mul_mod_self_right]
    exact (aloneF_zero hx).2.1
theorem kn_rows {base : Nat} : ∀ {xs : List L6} {t : Nat} {us : List Un} {s : Bst}, refuF t xs = 0 → Cl base s → Up t s → Kn us s → Kn (us ++ units xs) (buildU base s (units xs))
  | [], _, us, _, _, _, _, h => by
    have e : us ++ units [] = us := by simp [units]
    rw [e]
    exact h
  | x :: xs, t, us, s, hr, hc, hu, h => by
    obtain ⟨h1, h2, h3⟩ := refuF_zero hr
    obtain ⟨c, u⟩ := row_good h1 h2 hc hu (cntU x) (Nat.le_refl _)
    rw [(cntU_mul h1).1] at u
    have r := kn_row h1 h2 hc hu h (cntU x) (Nat.le_refl _)
    have e : buildU base s (units (x :: xs)) = buildU base (buildU base s (unitsN x (cntU x))) (units xs) := by
      rw [← buildU_app]; rfl
    have e2 : us ++ units (x :: xs) = us ++ unitsN x (cntU x) ++ units xs := by
      rw [List.append_assoc]; rfl
    rw [e, e2]
    exact kn_rows h3 c u r
theorem Kn.has {base : Nat} {us : List Un} {s : Bst} (hk : Kn us s) (hc : Cl base s) : ∀ u ∈ us, s.A (u.v / 1073741824) = true ∧ (u.big = false → s.B (u.v / 2097152) = true) := by
  intro u hu
  cases hb : u.big with
  | true =>
    have h1 := hc.L1A (u.v / 2097152) (by rw [hk.b1 u hu hb]; exact val_pos u)
    rw [Nat.div_div_eq_div_mul] at h1
    exact ⟨h1, fun e => by cases e⟩
  | false =>
    have h1 := hc.L2B (u.v / 4096) (by rw [hk.s1 u hu hb]; exact val_pos u)
    rw [Nat.div_div_eq_div_mul] at h1
    have h2 := hc.BA _ h1
    rw [Nat.div_div_eq_div_mul] at h2
    exact ⟨h2, fun _ => h1⟩
/-- what the tables say of an address that a leaf holds -/
theorem walk_yes {base : Nat} {us : List Un} {s : Bst} (hc : Cl base s) (hk : Kn us s) {u : Un} (hu : u ∈ us) (hl : u.v % u.len = 0) {a : Nat} (h1 : u.v ≤ a) (h2 : a < u.v + u.len) (ha : a < 549755813888) :
    s.A (a / 1073741824) = true ∧ s.M (a / 1073741824) = base + T1 s.A s.B (a / 1073741824) * 4096 + 1 ∧ (u.big = true → s.B (a / 2097152) = false ∧ s.M (T1 s.A s.B (a / 1073741824) * 512 + a / 2097152 % 512) = u.val) ∧ (u.big = false → s.B (a / 2097152) = true ∧ s.M (T1 s.A s.B (a / 1073741824) * 512 + a / 2097152 % 512) = base + T2 s.A s.B (a / 2097152) * 4096 + 1 ∧ s.M (T2 s.A s.B (a / 2097152) * 512 + a / 4096 % 512) = u.val) := by
  obtain ⟨hA1, hB1⟩ := hk.has hc u hu
  have hlen : (u.big = true ∧ u.len = 2097152) ∨ (u.big = false ∧ u.len = 4096) := by unfold Un.len; cases u.big <;> simp
  have e0 : a / 1073741824 = u.v / 1073741824 := by rcases hlen with ⟨_, e⟩ | ⟨_, e⟩ <;> rw [e] at hl h2 <;> omega
  have e1 : a / 2097152 = u.v / 2097152 := by rcases hlen with ⟨_, e⟩ | ⟨_, e⟩ <;> rw [e] at hl h2 <;> omega
  have hAa : s.A (a / 1073741824) = true := by rw [e0]; exact hA1
  have ek : a / 1073741824 * 512 + a / 2097152 % 512 = a / 2097152 := by omega
  have hmid := hc.c1 _ hAa (a / 2097152 % 512) (Nat.mod_lt _ (by decide))
  rw [ek] at hmid
  refine ⟨hAa, ?_, ?_, ?_⟩
  · rw [hc.c0 _ (show a / 1073741824 < 512 by omega), hAa, cond_true]
  · intro hb
    have hL := hk.b1 u hu hb
    have hnB : s.B (a / 2097152) = false := by
      rw [e1]
      exact hk.nb _ (by rw [hL]; exact val_pos u)
    refine ⟨hnB, ?_⟩
    rw [hmid, hnB, cond_false, e1]
    exact hL
  · intro hb
    have hBb : s.B (a / 2097152) = true := by rw [e1]; exact hB1 hb
    have hlen4 : u.len = 4096 := by rcases hlen with ⟨e, _⟩ | ⟨_, e⟩; · rw [hb] at e; cases e
                                    · exact e
    have e2 : a / 4096 = u.v / 4096 := by rw [hlen4] at hl h2; omega
    refine ⟨hBb, by rw [hmid, hBb, cond_true], ?_⟩
    have hlow := hc.c2 _ hBb (a / 4096 % 512) (Nat.mod_lt _ (by decide))
    rw [show a / 2097152 * 512 + a / 4096 % 512 = a / 4096 by omega] at hlow
    rw [hlow, e2]
    exact hk.s1 u hu hb
/-- what the tables say of an address that no leaf holds -/
theorem walk_no {base : Nat} {us : List Un} {s : Bst} (hc : Cl base s) (hk : Kn us s) (hal : ∀ u ∈ us, u.v % u.len = 0) {a : Nat} (hno : ∀ u ∈ us, ¬ (u.v ≤ a ∧ a < u.v + u.len)) (ha : a < 549755813888) :
    (s.A (a / 1073741824) = false ∧ s.M (a / 1073741824) = 0) ∨ (s.A (a / 1073741824) = true ∧ s.M (a / 1073741824) = base + T1 s.A s.B (a / 1073741824) * 4096 + 1 ∧ ((s.B (a / 2097152) = false ∧ s.M (T1 s.A s.B (a / 1073741824) * 512 + a / 2097152 % 512) = 0) ∨ (s.B (a / 2097152) = true ∧ s.M (T1 s.A s.B (a / 1073741824) * 512 + a / 2097152 % 512) = base + T2 s.A s.B (a / 2097152) * 4096 + 1 ∧ s.M (T2 s.A s.B (a / 2097152) * 512 + a / 4096 % 512) = 0))) := by
  have h0 := hc.c0 _ (show a / 1073741824 < 512 by omega)
  cases hA : s.A (a / 1073741824) with
  | false =>
    rw [hA, cond_false] at h0
    exact .inl ⟨rfl, h0⟩
  | true =>
    rw [hA, cond_true] at h0
    refine .inr ⟨rfl, h0, ?_⟩
    have ek : a / 1073741824 * 512 + a / 2097152 % 512 = a / 2097152 := by omega
    have hmid := hc.c1 _ hA (a / 2097152 % 512) (Nat.mod_lt _ (by decide))
    rw [ek] at hmid
    cases hB : s.B (a / 2097152) with
    | false =>
      rw [hB, cond_false] at hmid
      refine .inl ⟨rfl, hmid.trans ?_⟩
      refine Decidable.byContradiction fun hz => ?_
      obtain ⟨u, hu, hb, hv, _⟩ := hk.b2 _ hz
      have hlen : u.len = 2097152 := by unfold Un.len; rw [hb]; rfl
      have h5 := hal u hu
      have h6 := hno u hu
      rw [hlen] at h5 h6
      omega
    | true =>
      rw [hB, cond_true] at hmid
      refine .inr ⟨rfl, hmid, ?_⟩
      have hlow := hc.c2 _ hB (a / 4096 % 512) (Nat.mod_lt _ (by decide))
      rw [show a / 2097152 * 512 + a / 4096 % 512 = a / 4096 by omega] at hlow
      refine hlow.trans ?_
      refine Decidable.byContradiction fun hz => ?_
      obtain ⟨u, hu, hb, hv, _⟩ := hk.s2 _ hz
      have hlen : u.len = 4096 := by unfold Un.len; rw [hb]; rfl
      have h5 := hal u hu
      have h6 := hno u hu
      rw [hlen] at h5 h6
      omega
end Go.Proofs.Ytgjamnhepbblhaa
