/- join: a span laid behind a row. Own work. -/
import Derived.Test.YtehedllcdpjebaaSpBaseU64
import Derived.BigQuiet
import Derived.BigRegion
namespace Go.Proofs.Ytehedllcdpjebaa.U64
open Go.RowKit Go.Shelf Go.Proofs.Ytehedllcdpjebaa.Sp

/-- One append of one span onto a row that is owned. -/
theorem run_append1 {w : World} {base : Nat} {v : Value} {xs : List Sp} {x : Sp} {g cap : Nat} (ty : TypeId) (hown : Own w base v xs) (h0 : w.cell? ⟨g, 0, none⟩ = some (.int .u64 x.1)) (h1 : w.cell? ⟨g, 1, none⟩ = some (.int .u64 x.2)) (hb : xs.length ≤ 1099511627776) (hbase : base ≤ w.heap.size) :
    ∃ v' w', (Builtin.append_ #[75, 75] ty #[v, .slice (some ⟨g, 0, none⟩) 1 cap]).run Try.prog w = .ok v' w' ∧ Own w' base v' (xs ++ [x]) ∧ w.grownBy w' v.ownBlock := by
  obtain ⟨i, hi, hz0, hz1, hz2⟩ := info_parts info_span
  obtain ⟨v', w', h1, h2, h3, _, h5⟩ := run_append_own_at (P := Try.prog) w base 75 ty 102 i (.agg #[.int .u64 0, .int .u64 0]) 2 (2 * 8) Try.underlying75 hi hz0 hz1 hz2 rfl (by omega) v xs.length (encs xs) hown ⟨g, 0, none⟩ 1 cap (enc x) rfl (fun j u hj => by
    rw [Addr.add_lit, Nat.zero_add]
    match j, hj with
    | 0, hj => rw [h0]; exact hj
    | 1, hj => rw [h1]; exact hj) (by intro u hu; simp only [enc, List.mem_cons, List.not_mem_nil, or_false] at hu; rcases hu with rfl | rfl <;> rfl) (by unfold maxLen; omega) (by omega) hbase
  refine ⟨v', w', h1, ?_, h3⟩
  unfold Own
  rw [List.length_append, encs_append]
  exact h2

theorem wpList_append1 {w : World} {ops : Array Oper} {rest : List Oper} {o : Oper} {a : Act} {Q : Exit → Act → World → Prop} (s x : Operand) (hw : Region.wanted o (yielded ops a.tmps) = true)
    (ho : o.op = .call { callee := .builtin .append, args := #[s, x], argTypes := #[75, 75] })
    {base : Nat} {v : Value} {xs : List Sp} (y : Sp) {g cap : Nat} (hs : a.eval s = v) (hown : Own w base v xs) (hx : a.eval x = .slice (some ⟨g, 0, none⟩) 1 cap) (h0 : w.cell? ⟨g, 0, none⟩ = some (.int .u64 y.1)) (h1 : w.cell? ⟨g, 1, none⟩ = some (.int .u64 y.2)) (hb : xs.length ≤ 1099511627776) (hbase : base ≤ w.heap.size)
    (h : ∀ v' w', Own w' base v' (xs ++ [y]) → w.grownBy w' v.ownBlock → wpList Try.prog ops Q rest (a.put o.dst v') w') : wpList Try.prog ops Q (o :: rest) a w := by
  refine wpList_step fun K hK => ?_
  rw [if_pos hw]
  obtain ⟨v', w', hr, h2, h3⟩ := run_append1 o.type hown h0 h1 hb hbase (cap := cap)
  unfold Oper.wp execOp
  simp only [ho, resolve, invoke, builtin, Sem.run_bind, Sem.run_pure, Result.andThen_ok, List.map_toArray, List.map_cons, List.map_nil, hs, hx, hr]
  exact hK _ _ (h v' w' h2 h3)
theorem Own.ge {w : World} {base : Nat} {v : Value} {xs : List Sp} (h : Own w base v xs) {k : Nat} (hk : v.ownBlock = some k) : base ≤ k := by
  rcases h.2 with ⟨rfl, _⟩ | ⟨g, cap, cur, rfl, hb, _⟩
  · cases hk
  · cases hk; exact hb
set_option maxHeartbeats 1000000 in
theorem join_empty {w : World} {base : Nat} {v : Value} {x : Sp} (hown : Own w base v []) (hbase : base ≤ w.heap.size) :
    Calls Try.prog 44 #[v, .agg #[.int .u64 x.1, .int .u64 x.2]] w fun e w' => ∃ v', e = .returned v' ∧ Own w' base v' [x] ∧ Below base w w' := by
  obtain ⟨ao, cap, rfl⟩ : ∃ ao cap, v = .slice ao 0 cap := by
    rcases hown.2 with ⟨rfl, h0⟩ | ⟨g, cap, cur, rfl, _⟩
    · exact ⟨_, _, rfl⟩
    · exact ⟨_, _, rfl⟩
  have HO : Hid (Own w base (.slice ao 0 cap) []) := hown
  clear hown
  go_enter Try.func44, Try.ntmps44
  go_wp2_with (at_builtin; refine wpList_append1 (.tmp 9) (.tmp 11) (by rfl) rfl x rfl ((HO.out.alloc _).alloc _) rfl (new2 (by simp) _ _ _).1 (new2 (by simp) _ _ _).2 (by simp) (by simp; omega) ?_; intro v2 w2 h2 g2; have H2 : Hid (Own w2 base v2 [x]) := h2; have HB2 : Hid (Below base w w2) := (((Below.refl _ _).alloc hbase _).alloc (by simp; omega) _).grown g2 (by simp; omega) (fun k hk => HO.out.ge hk); clear h2 g2)
  go_ret
  exact ⟨_, rfl, H2.out, HB2.out⟩

set_option maxHeartbeats 1000000 in
theorem join_far {w : World} {base g cap : Nat} {a : List Sp} {e x : Sp} (hown : Own w base (.slice (some ⟨g, 0, none⟩) (a.length + 1) cap) (a ++ [e])) (hbase : base ≤ w.heap.size) (hx : e.2 + 1 < x.1) (he : 0 ≤ e.2) (hm : x.1 ≤ 18446744073709551615) (hl : a.length < 1099511627776)
    (c1 : w.cell? ⟨g, a.length * 2 + 1, none⟩ = some (.int .u64 e.2)) :
    Calls Try.prog 44 #[.slice (some ⟨g, 0, none⟩) (a.length + 1) cap, .agg #[.int .u64 x.1, .int .u64 x.2]] w fun e' w' => ∃ v', e' = .returned v' ∧ Own w' base v' (a ++ [e] ++ [x]) ∧ Below base w w' := by
  have HO : Hid (Own w base (.slice (some ⟨g, 0, none⟩) (a.length + 1) cap) (a ++ [e])) := hown
  clear hown
  have hA1 : ∀ o, (w.alloc o).cell? ⟨g, a.length * 2 + 1, none⟩ = some (.int .u64 e.2) := fun o => cell_alloc' _ c1
  clear c1
  have hd : decide (e.2 < x.1) = true := decide_eq_true (by omega)
  have hd2 : decide (1 < x.1 - e.2) = true := decide_eq_true (by omega)
  go_enter Try.func44, Try.ntmps44
  go_wp2_with fail
  go_quiet (fail)
  go_wp2_with (at_builtin; refine wpList_append1 (.tmp 35) (.tmp 37) (by rfl) rfl x rfl (((HO.out.alloc _).drewN _).alloc _) rfl (new2 (by simp) _ _ _).1 (new2 (by simp) _ _ _).2 (by simp; omega) (by simp; omega) ?_; intro v2 w2 h2 g2; have H2 : Hid (Own w2 base v2 (a ++ [e] ++ [x])) := h2; have HB2 : Hid (Below base w w2) := ((below_drewN' ((Below.refl _ _).alloc hbase _) _).alloc (by simp; omega) _).grown g2 (by simp; omega) (fun k hk => HO.out.ge hk); clear h2 g2)
  go_ret
  exact ⟨_, rfl, H2.out, HB2.out⟩

theorem Own.set1 {w : World} {base g n cap : Nat} {a : List Sp} {e : Sp} (h : Own w base (.slice (some ⟨g, 0, none⟩) n cap) (a ++ [e])) (z : Int) :
    Own (w.setCell ⟨g, a.length * 2 + 1, none⟩ (.int .u64 z)) base (.slice (some ⟨g, 0, none⟩) n cap) (a ++ [(e.1, z)]) := by
  rcases h.2 with ⟨hv, _⟩ | ⟨g', cap', cur, hv, hb, hg, hnc, hcm, hcs, ht⟩
  · cases hv
  · cases hv
    refine ⟨by rw [encs_length], .inr ⟨g, cap, cur.setIfInBounds (a.length * 2 + 1) (.int .u64 z), by simp, hb, ?_, by simpa using hnc, hcm, by simpa using hcs, ?_⟩⟩
    · simp only [World.setCell, Array.getElem?_modify]
      rw [if_pos trivial, hg]
      simp
    · rw [Array.toList_setIfInBounds, show (a ++ [(e.1, z)]).length * 2 = (a ++ [e]).length * 2 by simp, List.take_set, ht, encs_append, encs_append, List.set_append_right _ _ (by rw [encs_length]; omega), encs_length]
      rw [show a.length * 2 + 1 - a.length * 2 = 1 by omega]
      rfl

set_option maxHeartbeats 2000000 in
theorem join_near {w : World} {base g cap : Nat} {a : List Sp} {e x : Sp} (hown : Own w base (.slice (some ⟨g, 0, none⟩) (a.length + 1) cap) (a ++ [e])) (hbase : base ≤ w.heap.size) (hx : ¬ e.2 + 1 < x.1) (hl : a.length < 1099511627776)
    (c1 : w.cell? ⟨g, a.length * 2 + 1, none⟩ = some (.int .u64 e.2)) (hf : w.frozen? ⟨g, a.length * 2 + 1, none⟩ = false) (hbg : base ≤ g) :
    Calls Try.prog 44 #[.slice (some ⟨g, 0, none⟩) (a.length + 1) cap, .agg #[.int .u64 x.1, .int .u64 x.2]] w fun e' w' => ∃ v', e' = .returned v' ∧ Own w' base v' (a ++ [(e.1, max e.2 x.2)]) ∧ Below base w w' := by
  have HO : Hid (Own w base (.slice (some ⟨g, 0, none⟩) (a.length + 1) cap) (a ++ [e])) := hown
  clear hown
  have hA1 : ∀ o, (w.alloc o).cell? ⟨g, a.length * 2 + 1, none⟩ = some (.int .u64 e.2) := fun o => cell_alloc' _ c1
  have hF1 : ∀ o, (w.alloc o).frozen? ⟨g, a.length * 2 + 1, none⟩ = false := fun o => by
    rw [((Below.refl w.heap.size w).alloc (Nat.le_refl _) o).frozen (p := ⟨g, a.length * 2 + 1, none⟩) (World.block_lt_of_cell? w _ c1)]; exact hf
  have H1 : Hid (∀ o n z, z = max e.2 x.2 → Own (((w.alloc o).drewN n).setCell ⟨g, a.length * 2 + 1, none⟩ (.int .u64 z)) base (.slice (some ⟨g, 0, none⟩) (a.length + 1) cap) (a ++ [(e.1, max e.2 x.2)]) ∧ Below base w (((w.alloc o).drewN n).setCell ⟨g, a.length * 2 + 1, none⟩ (.int .u64 z))) :=
    fun o n z hz => hz ▸ ⟨((HO.out.alloc o).drewN n).set1 _, (below_drewN' ((Below.refl _ _).alloc hbase _) _).setCell (p := ⟨g, a.length * 2 + 1, none⟩) hbg _⟩
  clear c1 hf
  by_cases hlt : e.2 < x.1
  · have hd : decide (e.2 < x.1) = true := decide_eq_true (by omega)
    have hd2 : decide (1 < x.1 - e.2) = false := decide_eq_false (by omega)
    go_enter Try.func44, Try.ntmps44
    go_wp2_with fail
    go_quiet (fail)
    go_wp2_with fail
    go_region
    all_goals go_wp2
    all_goals
      go_ret
      exact ⟨_, rfl, H1.out _ _ _ (by omega)⟩
  · have hd : decide (e.2 < x.1) = false := decide_eq_false (by omega)
    go_enter Try.func44, Try.ntmps44
    go_wp2_with fail
    go_quiet (fail)
    go_wp2_with fail
    go_region
    all_goals go_wp2
    all_goals
      go_ret
      exact ⟨_, rfl, H1.out _ _ _ (by omega)⟩

/-- JOIN: whatever row, whatever span. -/
theorem join_any {w : World} {base : Nat} {v : Value} {xs : List Sp} {x : Sp} {m : Int} (hown : Own w base v xs) (hbase : base ≤ w.heap.size) (hc : Canon m xs) (hm : x.1 ≤ 18446744073709551615) (hl : xs.length ≤ 1099511627776) :
    Calls Try.prog 44 #[v, .agg #[.int .u64 x.1, .int .u64 x.2]] w fun e' w' => ∃ v', e' = .returned v' ∧ Own w' base v' (joined xs x) ∧ Below base w w' := by
  rcases List.eq_nil_or_concat xs with rfl | ⟨a, e, rfl⟩
  · exact join_empty hown hbase
  · simp only [List.concat_eq_append] at hown hc hl ⊢
    obtain ⟨g, cap, cur, rfl, hb, hg, hnc, hcm, hcs, ht⟩ : ∃ g cap cur, v = .slice (some ⟨g, 0, none⟩) (a ++ [e]).length cap ∧ base ≤ g ∧ w.heap[g]? = some (.cells cur 102 (0, 0)) ∧ (a ++ [e]).length ≤ cap ∧ cap ≤ maxLen ∧ cur.size = cap * 2 ∧ cur.toList.take ((a ++ [e]).length * 2) = encs (a ++ [e]) := by
      rcases hown.2 with ⟨_, h0⟩ | h
      · simp at h0
      · exact h
    have he := hc.1 e (by simp)
    have hlen : (a ++ [e]).length = a.length + 1 := by simp
    obtain ⟨ao, cap', e1, _, _, _, _, hj⟩ := hown.sv
    obtain ⟨g', off, e2, _, c1⟩ := hj a.length (by simp)
    cases e1
    cases e2
    simp only [List.getElem_concat_length, Nat.zero_add] at c1
    have hf : w.frozen? ⟨g, a.length * 2 + 1, none⟩ = false := by simp [World.frozen?, hg]
    rw [hlen] at hown hl ⊢
    by_cases hx : e.2 + 1 < x.1
    · rw [joined_far a e x hx]
      exact join_far hown hbase hx (by omega) hm (by omega) c1
    · rw [joined_near a e x hx]
      exact join_near hown hbase hx (by omega) c1 hf hb
end Go.Proofs.Ytehedllcdpjebaa.U64
