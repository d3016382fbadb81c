import Derived.Test.YtgjamnhepbblhaaPk22
import Derived.Test.YtgjamnhepbblhaaPk26
import Derived.BigQuiet
/- Pages: the document's tables, of any rows (written by parts/gen_pgtbs.py). Own work. -/
namespace Go.Proofs.Ytgjamnhepbblhaa
open Go.RowKit Wk
set_option linter.unusedVariables false
set_option maxRecDepth 20000
theorem qrow_one (lv v : Int) : ∀ u ∈ (qrow lv v).toList, u.oneCell' = true := by
  intro u hu
  obtain ⟨r, hr⟩ := List.mem_iff_getElem?.1 hu
  rw [Array.getElem?_toList] at hr
  have hlt : r < 514 := by
    have := (Array.getElem?_eq_some_iff.1 hr).1
    rw [qrow_size] at this
    exact this
  rw [qrow_get lv v hlt] at hr
  cases hr
  split
  · rfl
  · split <;> rfl
theorem wpList_appendQ {w : World} {base : Nat} {ops : Array Oper} {rest : List Oper} {o : Oper} {a : Act} {Q : Exit → Act → World → Prop} (hgd : o.guard = none) (s x : Operand)
    (ho : o.op = .call { callee := .builtin .append, args := #[s, x], argTypes := #[65, 65] }) {v : Value} {ts : List (Nat × Nat)} {y : Nat × Nat} {q : Array Value} (hq : q = qrow (y.1 : Int) (vq y : Int)) {g cap : Nat} (hown : OwnQ w base v ts (fun _ => 0)) (hs : a.eval s = v) (hx : a.eval x = .slice (some ⟨g, 0, none⟩) 1 cap) (hg : w.heap[g]? = some (.cells q 68 (0, 0))) (hb : ts.length ≤ 2000) (hbase : base ≤ w.heap.size)
    (h : ∀ v' w', Hid (OwnQ w' base v' (ts ++ [y]) (fun _ => 0)) → Hid (w.grownBy w' v.ownBlock) → wpList Try.prog ops Q rest (a.put o.dst v') w') : wpList Try.prog ops Q (o :: rest) a w :=
  wpList_plain hgd fun K hK => by
    have hinfo := info_q
    have hZs := qrow_size 0 0
    generalize qrow 0 0 = Z at hinfo hZs
    have hqs : q.size = 514 := by rw [hq]; exact qrow_size _ _
    have hq1 : ∀ u ∈ q.toList, u.oneCell' = true := by rw [hq]; exact qrow_one _ _
    have hsn := cellsQ_snoc ts y
    rw [← hq] at hsn
    clear hq
    obtain ⟨i, hi, hz0, hz1, hz2⟩ := info_parts hinfo
    obtain ⟨v', w', r1, r2, r3, _, r5⟩ := run_append_own_at (P := Try.prog) w base 65 o.type 68 i (.agg Z) 514 4112 Try.underlying65 hi hz0 hz1 hz2 hZs (by omega) v ts.length (cellsQ ts fun _ => 0) hown ⟨g, 0, none⟩ 1 cap q.toList (by rw [Array.length_toList, hqs]) (fun j u hj => by
      rw [Addr.add_lit, Nat.zero_add, cell_of_row _ _ _ _ _ _ hg, ← Array.getElem?_toList]
      exact hj) hq1 (by unfold maxLen; omega) (by omega) hbase
    have h2 : OwnQ w' base v' (ts ++ [y]) (fun _ => 0) := by
      unfold OwnQ
      rw [List.length_append, hsn]
      exact r2
    unfold Oper.wp execOp
    simp only [ho, resolve, invoke, builtin, Sem.run_bind, Sem.run_pure, Result.andThen_ok, List.map_toArray, List.map_cons, List.map_nil, hs, hx, r1]
    exact hK _ _ (h v' w' h2 r3)
theorem wpList_qbuild {ops : Array Oper} {rest : List Oper} {o : Oper} {a : Act} {w : World} {Q : Exit → Act → World → Prop} (hgd : o.guard = none) (parts : Array (Nat × Operand)) (ho : o.op = .build 68 parts) (vals : Array (Nat × Value)) (hv : (parts.map fun (i, x) => (i, a.eval x)) = vals) {V : Value} (hr : ∀ W, (Instr.build 68 vals).run Try.prog W = .ok V W) (h : wpList Try.prog ops Q rest (a.put o.dst V) w) : wpList Try.prog ops Q (o :: rest) a w :=
  wpList_plain hgd fun K hK => by
    unfold Oper.wp execOp
    simp only [ho, Sem.run_bind, Sem.run_pure, Result.andThen_ok, hv, hr]
    exact hK _ _ h
theorem wpList_qslice {ops : Array Oper} {rest : List Oper} {o : Oper} {a : Act} {w : World} {Q : Exit → Act → World → Prop} (hgd : o.guard = none) (parts : Array (Nat × Operand)) (ho : o.op = .buildSlice 65 1 parts) (vals : Array (Nat × Value)) (hv : (parts.map fun (i, x) => (i, a.eval x)) = vals) {q : Array Value} (hr : ∀ W, (Instr.buildSlice 65 1 vals).run Try.prog W = .ok (.slice (some ⟨W.heap.size, 0, none⟩) 1 1) (W.alloc (.cells q 68))) (h : wpList Try.prog ops Q rest (a.put o.dst (.slice (some ⟨w.heap.size, 0, none⟩) 1 1)) (w.alloc (.cells q 68))) : wpList Try.prog ops Q (o :: rest) a w :=
  wpList_plain hgd fun K hK => by
    unfold Oper.wp execOp
    simp only [ho, Sem.run_bind, Sem.run_pure, Result.andThen_ok, hv, hr]
    exact hK _ _ h
theorem vq_one (a : Nat) : vq (1, a) = a * 1073741824 := by unfold vq; exact if_pos rfl
theorem vq_two (b : Nat) : vq (2, b) = b * 2097152 := by
  unfold vq
  rw [if_neg (show ¬ ((2, b) : Nat × Nat).1 = 1 from (fun e => by cases e)), if_pos rfl]
theorem d30 (b : Nat) : b * 2097152 / 1073741824 = b / 512 := by omega
theorem not21 {b : Nat} (hb : b ≤ 18446744073709551615) : bits .andNot .u64 (b : Int) 2097151 = ((b / 2097152 * 2097152 : Nat) : Int) := by
  have h := u64_andNot_nat b 2097151 (by omega) (by decide)
  have h2 : b &&& (18446744073709551615 - 2097151) = b / 2097152 % 8796093022208 * 2097152 := land_mask b 21 43
  have h3 : bits .andNot .u64 (b : Int) 2097151 = ((b &&& (18446744073709551615 - 2097151) : Nat) : Int) := h
  rw [h3, h2, Nat.mod_eq_of_lt (Nat.div_lt_of_lt_mul (by omega))]
theorem not30 {b : Nat} (hb : b ≤ 18446744073709551615) : bits .andNot .u64 (b : Int) 1073741823 = ((b / 1073741824 * 1073741824 : Nat) : Int) := by
  have h := u64_andNot_nat b 1073741823 (by omega) (by decide)
  have h2 : b &&& (18446744073709551615 - 1073741823) = b / 1073741824 % 17179869184 * 1073741824 := land_mask b 30 34
  have h3 : bits .andNot .u64 (b : Int) 1073741823 = ((b &&& (18446744073709551615 - 1073741823) : Nat) : Int) := h
  rw [h3, h2, Nat.mod_eq_of_lt (Nat.div_lt_of_lt_mul (by omega))]
theorem chF_full {xs : List L6} (hr : refuF 0 xs = 0) {i : Nat} (hi : i < xs.length) : ∀ j, j ≤ (xs[i].v + xs[i].n.toNat * 4096 - 1) / 2097152 + 1 - xs[i].v / 2097152 → (chF (tsU [(0, 0)] (units (xs.take i))) xs[i].big (xs[i].v / 2097152) j).length ≤ (tsU [(0, 0)] (units xs)).length := by
  intro j hj
  have hx := refu_all hr xs[i] (List.getElem_mem _)
  have e1 : tsU [(0, 0)] (units (xs.take (i + 1))) = chF (tsU [(0, 0)] (units (xs.take i))) xs[i].big (xs[i].v / 2097152) ((xs[i].v + xs[i].n.toNat * 4096 - 1) / 2097152 + 1 - xs[i].v / 2097152) := by
    rw [List.take_succ_eq_append_getElem hi, units_app, units_one, tsU_app, row_tabs hx]
  have e2 : units xs = units (xs.take (i + 1)) ++ units (xs.drop (i + 1)) := by rw [← units_app, List.take_append_drop]
  have h1 := chF_len (tsU [(0, 0)] (units (xs.take i))) xs[i].big (xs[i].v / 2097152) j ((xs[i].v + xs[i].n.toNat * 4096 - 1) / 2097152 + 1 - xs[i].v / 2097152 - j)
  rw [show j + ((xs[i].v + xs[i].n.toNat * 4096 - 1) / 2097152 + 1 - xs[i].v / 2097152 - j) = (xs[i].v + xs[i].n.toNat * 4096 - 1) / 2097152 + 1 - xs[i].v / 2097152 by omega, ← e1] at h1
  rw [e2, tsU_app]
  exact Nat.le_trans h1 (tsU_len _ _)
theorem chF_row {xs : List L6} (hr : refuF 0 xs = 0) {i : Nat} (hi : i < xs.length) : tsU [(0, 0)] (units (xs.take (i + 1))) = chF (tsU [(0, 0)] (units (xs.take i))) xs[i].big (xs[i].v / 2097152) ((xs[i].v + xs[i].n.toNat * 4096 - 1) / 2097152 + 1 - xs[i].v / 2097152) := by
  have hx := refu_all hr xs[i] (List.getElem_mem _)
  rw [List.take_succ_eq_append_getElem hi, units_app, units_one, tsU_app, row_tabs hx]
end Go.Proofs.Ytgjamnhepbblhaa
