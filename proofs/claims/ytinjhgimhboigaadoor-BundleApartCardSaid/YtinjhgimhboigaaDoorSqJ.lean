/- A region that draws its order, whose last call but one operation may write what the others read: a condition on the world that is asked only as long as that call has not come up. Own work (after the library's OrdersHeld). -/
import Derived.Test.YtinjhgimhboigaaDoorSpTake
import Derived.OrdersHeld
namespace Go.Proofs.YtinjhgimhboigaaDoor
open Go.RowKit
section
variable {P : Program} {ops : Array Oper} {Q : Exit → Act → World → Prop} {md : Region.Mode} {S : World → Prop} {J : Nat}
/-- whatever order is picked; S holds behind every operation that is carried out ahead of J -/
def wpAnyJ (P : Program) (md : Region.Mode) (ops : Array Oper) (Q : Exit → Act → World → Prop) (S : World → Prop) (J : Nat) : Nat → Array Bool → Act → World → Prop
  | 0, listed, a, w => Region.ready md ops listed = [] ∧ Q .normal a w
  | fuel + 1, listed, a, w =>
    (Region.ready md ops listed = [] → Q .normal a w) ∧
    ∀ i ∈ Region.ready md ops listed, wpOp P ops Q i (fun a' w' => (i ≠ J → listed.getD J false = false → S w') ∧ wpAnyJ P md ops Q S J fuel (listed.setIfInBounds i true) a' w') a w
theorem wpAny_of_J : ∀ (fuel : Nat) (listed : Array Bool) (a : Act) (w : World), wpAnyJ P md ops Q S J fuel listed a w → wpAny P md ops Q fuel listed a w
  | 0, _, _, _, h => h
  | fuel + 1, _, _, _, h => ⟨h.1, fun i hi => wpOp_mono (fun a' w' h' => wpAny_of_J fuel _ a' w' h'.2) (h.2 i hi)⟩
/-- what has come up waits for nothing that has not -/
def ClJ (md : Region.Mode) (ops : Array Oper) (listed : Array Bool) : Prop := ∀ k o, ops[k]? = some o → listed.getD k false = true → ∀ e ∈ o.after, Region.binds md e = true → listed.getD e.on false = true
def clB (md : Region.Mode) (ops : Array Oper) (listed : Array Bool) : Bool := (List.range ops.size).all fun k => !listed.getD k false || ((ops[k]?).map (·.after.all fun e => !Region.binds md e || listed.getD e.on false)).getD true
theorem ClJ.of {listed : Array Bool} (h : clB md ops listed = true) : ClJ md ops listed := fun k o ho hl e he hb => by
  unfold clB at h
  rw [List.all_eq_true] at h
  have h1 := h k (List.mem_range.2 (Array.getElem?_eq_some_iff.1 ho).1)
  rw [hl] at h1
  simp only [Bool.not_true, Bool.false_or, ho, Option.map_some, Option.getD_some, Array.all_eq_true_iff_forall_mem] at h1
  have h2 := h1 e he
  rw [hb] at h2
  simpa using h2
theorem ClJ.step {listed : Array Bool} {j : Nat} (h : ClJ md ops listed) (hj : j ∈ Region.ready md ops listed) : ClJ md ops (listed.setIfInBounds j true) := fun k o ho hl e he hb => by
  by_cases hjk : j = k
  · subst hjk
    obtain ⟨_, o', ho', hall⟩ := mem_ready.1 hj
    rw [ho] at ho'
    cases ho'
    exact getD_set_true (hall e he hb)
  · rw [getD_set_ne false hjk] at hl
    exact getD_set_true (h k o ho hl e he hb)
/-- J waits, at last, for all that stand ahead of it -/
def ancJ (md : Region.Mode) (ops : Array Oper) (J : Nat) : Bool := (List.range J).all fun i => (List.range (J + 1)).any fun k => decide (i < k) && ((ops[k]?).map (·.after.any fun e => Region.binds md e && e.on == i)).getD false
theorem anc_listed {listed : Array Bool} (hA : ancJ md ops J = true) (hc : ClJ md ops listed) (hJ : J ∈ Region.ready md ops listed) : ∀ d i, i < J → J - i ≤ d → listed.getD i false = true
  | 0, i, hi, hd => by omega
  | d + 1, i, hi, hd => by
    have hA0 := hA
    unfold ancJ at hA
    rw [List.all_eq_true] at hA
    have h1 := hA i (List.mem_range.2 hi)
    rw [List.any_eq_true] at h1
    obtain ⟨k, hk, h2⟩ := h1
    rw [Bool.and_eq_true] at h2
    have hik : i < k := of_decide_eq_true h2.1
    have hkJ : k ≤ J := by have := List.mem_range.1 hk; omega
    cases ho : ops[k]? with
    | none => rw [ho] at h2; simp at h2
    | some o =>
      rw [ho] at h2
      simp only [Option.map_some, Option.getD_some] at h2
      obtain ⟨e, he, h3⟩ := Array.any_eq_true'.1 h2.2
      rw [Bool.and_eq_true, beq_iff_eq] at h3
      by_cases hkj : k = J
      · subst hkj
        obtain ⟨_, o', ho', hall⟩ := mem_ready.1 hJ
        rw [ho] at ho'
        cases ho'
        rw [← h3.2]
        exact hall e he h3.1
      · have := anc_listed hA0 hc hJ d k (by omega) (by omega)
        rw [← h3.2]
        exact hc k o ho this e he h3.1
theorem wpAnyJ_first {i : Nat} {oi : Oper} {v : Value} (hA : ancJ md ops J = true) (hiJ : i < J) (hi : ops[i]? = some oi) (hsel : ∀ (j : Nat) (o : Oper) cs b, ops[j]? = some o → o.op ≠ .select cs b)
    (hQ : ∀ c a w, Q (.panic c) (a.put oi.dst v) w → Q (.panic c) a w) :
    ∀ (fuel : Nat) (listed : Array Bool) (a : Act) (w : World), ClJ md ops listed → listed.getD J false = false →
      (∀ j oj, ops[j]? = some oj → j ≠ i → listed.getD j true = false → (∀ e ∈ oj.after, Region.binds md e = true → e.on ≠ i) → oi.apart ops oj = true) →
      i ∈ Region.ready md ops listed → YieldsIf P ops S oi v a → S w →
      wpAnyJ P md ops Q S J fuel (listed.setIfInBounds i true) (a.put oi.dst v) w → wpAnyJ P md ops Q S J (fuel + 1) listed a w := by
  intro fuel
  induction fuel with
  | zero =>
    intro listed a w _ _ _ hr hy hS H
    refine ⟨fun h => (by rw [h] at hr; cases hr), fun j hj => ?_⟩
    by_cases hji : j = i
    · subst hji; exact hy.wpOp hi hS ⟨fun _ _ => hS, H⟩
    · have := ready_mono hj hji
      rw [H.1] at this
      cases this
  | succ fuel ih =>
    intro listed a w hcl hJf hfree hr hy hS H
    refine ⟨fun h => (by rw [h] at hr; cases hr), fun j hj => ?_⟩
    by_cases hji : j = i
    · subst hji; exact hy.wpOp hi hS ⟨fun _ _ => hS, H⟩
    · have hjJ : j ≠ J := fun e => by
        subst e
        have h1 := anc_listed hA hcl hj (j - i) i hiJ (Nat.le_refl _)
        have h0 := (mem_ready.1 hr).1
        rcases Nat.lt_or_ge i listed.size with h' | h'
        · simp [h'] at h0 h1; rw [h0] at h1; cases h1
        · simp [Array.getElem?_eq_none h'] at h1
      have h1 := H.2 j (ready_mono hj hji)
      obtain ⟨hjun, oj, hoj, hall⟩ := mem_ready.1 hj
      have hnot : ∀ e ∈ oj.after, Region.binds md e = true → e.on ≠ i := fun e he hb heq => by
        have h1 := hall e he hb
        have h0 := (mem_ready.1 hr).1
        rw [heq] at h1
        rcases Nat.lt_or_ge i listed.size with h' | h'
        · simp [h'] at h0 h1; rw [h0] at h1; cases h1
        · simp [Array.getElem?_eq_none h'] at h1
      have h2 := wpOp_putIf hoj (hfree j oj hoj hji hjun hnot) (fun cs b => hsel i oi cs b hi) (fun cs b => hsel j oj cs b hoj) hQ hy h1
      have hfree' : ∀ k ok, ops[k]? = some ok → k ≠ i → (listed.setIfInBounds j true).getD k true = false →
          (∀ e ∈ ok.after, Region.binds md e = true → e.on ≠ i) → oi.apart ops ok = true := fun k ok hk hki hun hno => by
        refine hfree k ok hk hki ?_ hno
        by_cases hjk : j = k
        · subst hjk; exact hjun
        · rw [getD_set_ne true hjk] at hun; exact hun
      have hJi : (listed.setIfInBounds i true).getD J false = false := by rw [getD_set_ne false (by omega)]; exact hJf
      refine wpOp_mono (fun a' w' h3 => ⟨fun _ _ => h3.2.1 hjJ hJi, ih (listed.setIfInBounds j true) a' w' (hcl.step hj) (by rw [getD_set_ne false hjJ]; exact hJf) hfree' (ready_mono hr (Ne.symm hji)) h3.1 (h3.2.1 hjJ hJi) ?_⟩) h2
      rw [Array.setIfInBounds_comm _ _ hji]
      exact h3.2.2
/-- take number i first -/
theorem takeJ {i d : Nat} {oi : Oper} (v : Value) {fuel : Nat} {listed : Array Bool} {a : Act} {w : World} (hA : ancJ md ops J = true) (hiJ : i < J) (hi : ops[i]? = some oi) (hd : oi.dst = some d)
    (hs : Region.noSelect ops = true) (hf : Region.free md ops listed i = true) (hr : (Region.ready md ops listed).contains i = true) (hc : clB md ops listed = true) (hJf : listed.getD J false = false)
    (hQ : ∀ c a w, Q (.panic c) (a.put (some d) v) w → Q (.panic c) a w) (hS : S w) (hw : Region.wanted oi (yielded ops a.tmps) = true) (hy : ∀ w, S w → (execOp a.eval oi).run P w = .ok (.value v) w)
    (h : wpAnyJ P md ops Q S J fuel (listed.setIfInBounds i true) (a.put (some d) v) w) : wpAnyJ P md ops Q S J (fuel + 1) listed a w := by
  rw [← hd] at h hQ
  exact wpAnyJ_first hA hiJ hi (Region.noSelect_spec hs) hQ fuel listed a w (ClJ.of hc) hJf (Region.free_spec hi hf) (by simpa using hr) (.inl ⟨hw, hy⟩) hS h
/-- one operation alone may come up: a call -/
theorem callJ {i d : Nat} {o : Oper} {fuel : Nat} {listed : Array Bool} {a : Act} {w : World} (hr : Region.ready md ops listed = [i]) (hi : ops[i]? = some o) (hd : o.dst = some d) (hw : Region.wanted o (yielded ops a.tmps) = true)
    (f : FuncId) (xs : Array Operand) (ats : Array TypeId) (ho : o.op = .call { callee := .value (.func f), args := xs, argTypes := ats }) (he : ∀ args w, (callFunc f args).run P w = .ok (.enter f args) w) (args : Array Value) (hargs : #[] ++ xs.map a.eval ++ #[] = args) {R : Value → World → Prop}
    (hc : Calls P f args w fun e w' => ∃ v, e = .returned v ∧ R v w') (hS : ∀ v w', R v w' → i ≠ J → listed.getD J false = false → S w') (hK : ∀ v w', R v w' → wpAnyJ P md ops Q S J fuel (listed.setIfInBounds i true) (a.put (some d) v) w') : wpAnyJ P md ops Q S J (fuel + 1) listed a w := by
  rw [← hd] at hK
  refine ⟨fun h => (by rw [hr] at h; cases h), fun j hj => ?_⟩
  rw [hr] at hj
  obtain rfl := List.mem_singleton.1 hj
  exact wpOp_step hi (fun K' hK' => step_call3 hw f xs ats ho he args hargs hc (fun v w' hR => hK' _ _ ⟨hS v w' hR, hK v w' hR⟩))
/-- one operation alone may come up: a value is read -/
theorem valJ {i d : Nat} {o : Oper} {fuel : Nat} {listed : Array Bool} {a : Act} {w : World} (hr : Region.ready md ops listed = [i]) (hi : ops[i]? = some o) (hd : o.dst = some d) (hw : Region.wanted o (yielded ops a.tmps) = true) (v : Value) (hv : (execOp a.eval o).run P w = .ok (.value v) w) (hS : i ≠ J → listed.getD J false = false → S w)
    (hK : wpAnyJ P md ops Q S J fuel (listed.setIfInBounds i true) (a.put (some d) v) w) : wpAnyJ P md ops Q S J (fuel + 1) listed a w := by
  rw [← hd] at hK
  refine ⟨fun h => (by rw [hr] at h; cases h), fun j hj => ?_⟩
  rw [hr] at hj
  obtain rfl := List.mem_singleton.1 hj
  refine wpOp_step hi (fun K' hK' => ?_)
  rw [if_pos hw]
  unfold Oper.wp
  rw [hv, Oper.upon_value]
  exact hK' _ _ ⟨hS, hK⟩
theorem doneJ {listed : Array Bool} {a : Act} {w : World} (hr : Region.ready md ops listed = []) (h : Q .normal a w) : ∀ fuel, wpAnyJ P md ops Q S J fuel listed a w
  | 0 => ⟨hr, h⟩
  | _ + 1 => ⟨fun _ => h, by rw [hr]; simp⟩
theorem regionJ {id : Nat} {a : Act} {w : World} (S : World → Prop) (J : Nat) (hm : P.follows .mixedOrders = true) (hA : ancJ .any ops J = true) (hS : S w.drew)
    (h : S w.drew → ancJ .any ops J = true → wpAnyJ P .any ops Q S J ops.size (Array.replicate ops.size false) a w.drew) : (Code.region id ops true).wp P Q a w :=
  wp_region_any hm (wpAny_of_J _ _ _ _ (h hS hA))
end
end Go.Proofs.YtinjhgimhboigaaDoor
