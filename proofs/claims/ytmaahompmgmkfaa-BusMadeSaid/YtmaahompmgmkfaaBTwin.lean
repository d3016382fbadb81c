/- twin of the pages. Own work. -/
import Derived.Test.YtmaahompmgmkfaaBRead
import Derived.Test.YtmaahompmgmkfaaBEq
import Derived.Maps.RangeWalk
import Derived.Deep.WholeRow
namespace Go.Proofs.Ytmaahompmgmkfaa
open Go.RowKit Go.Maps
def mkP (c : Option Nat) : Value := .pointer (c.map fun g => ⟨g, 0, none⟩)
theorem ptrE_form (v : Value) (y : DataW Unit × List MemPlace) (h : ptrE v = some y) : ∃ c, v = mkP c := by
  unfold ptrE at h
  split at h
  · exact ⟨none, rfl⟩
  · exact ⟨some _, rfl⟩
  · cases h
theorem has_of_atKey {D : DataW Unit} {kl : Lit} {y : DataW Unit} (h : ∀ zd, D.atKey kl zd = y) : Maps.has D kl = true := by
  cases e : Maps.has D kl with
  | true => rfl
  | false =>
    have h1 := h .nil
    have h2 := h (.lit (.bool true))
    rw [atKey_of_not_has e] at h1 h2
    rw [← h1] at h2
    cases h2
theorem wpList_plen {w : World} {ops : Array Oper} {rest : List Oper} {o : Oper} {a : Act} {Q : Exit → Act → World → Prop} (hgd : o.guard = none) (x : Operand) (ho : o.op = .call { callee := .builtin .len, args := #[x], argTypes := #[66] })
    {B c : Nat} {T : Nat → Option Nat} (hx : a.eval x = .map (some B)) (hM : MapT w B T c) (h : wpList Try.prog ops Q rest (a.put o.dst (.int .i64 (c : Int))) w) : wpList Try.prog ops Q (o :: rest) a w := by
  refine wpList_plain hgd fun K hK => ?_
  unfold Oper.wp
  simp [execOp, ho, resolve, invoke, builtin, hx, hM.len o.type, Result.andThen]
  exact hK _ _ h
/-- a row of all pages that hold something has as many keys at least -/
theorem cnt_keys {D : DataW Unit} (hD : Maps.Tidy D) {M : Nat → Nat} (h : ∀ k : Nat, k < pagesN → nz M k = true → Maps.has D (.int .u64 (k : Int)) = true) : ∀ j, j ≤ pagesN → ∃ E : DataW Unit, Maps.Tidy E ∧ Maps.size E + cntN M j ≤ Maps.size D ∧ ∀ k : Nat, j ≤ k → k < pagesN → nz M k = true → Maps.has E (.int .u64 (k : Int)) = true
  | 0, _ => ⟨D, hD, Nat.le_refl _, fun k _ hk hn => h k hk hn⟩
  | j + 1, hj => by
    obtain ⟨E, hE, hs, hk⟩ := cnt_keys hD h j (by omega)
    have hz := size_del (k := .int .u64 (j : Int)) hE
    refine ⟨E.del (.int .u64 (j : Int)), hE.del _, ?_, fun k hjk hkp hn => ?_⟩
    · unfold cntN
      cases hn : nz M j with
      | true =>
        rw [hk j (Nat.le_refl _) (by omega) hn] at hz
        simp only [if_true] at hz ⊢
        omega
      | false =>
        simp only [Bool.false_eq_true, if_false]
        omega
    · rw [has_del_other (lit_ne (by omega))]
      exact hk k (by omega) hkp hn
theorem MapT.full {w : World} {B n : Nat} {T : Nat → Option Nat} {M : Nat → Nat} (h : MapT w B T n) (hT : ∀ k, T k = none → isZ M k) : cnt M ≤ n := by
  obtain ⟨D, ho, hsz, h3, _⟩ := h
  obtain ⟨E, _, h1, _⟩ := cnt_keys (D := D) (M := M) (ho.tidy key_page) (fun k hk hn => by
    have hk2 : k < 4503599627370496 := by unfold pagesN at hk; omega
    cases e : T k with
    | none => rw [nz_false.2 (hT k e)] at hn; cases hn
    | some g => exact ((h3 k hk2).2 g e).1) pagesN (Nat.le_refl _)
  have : cnt M = cntN M pagesN := rfl
  omega
theorem ranges_keeps {S : Nat → Prop} {w w' : World} {k : TypeId} {R : Value → Option (DataW Unit × List MemPlace)} {b r n : Nat} {D : DataW Unit} {left : Lit → Bool} {c : Nat} (h : w.ranges Try.prog k R b r n D left c) (hk : Keeps S w w') (hb' : ¬ S b) (hr' : ¬ S r) : w'.ranges Try.prog k R b r n D left c := by
  have h1 := h.owns.lt
  have h2 := h.lt
  obtain ⟨es, clock, since, seen, c0, hb, F, hs, hD, hr, rest⟩ := h
  exact ⟨es, clock, since, seen, c0, (hk.block b h1 hb').trans hb, F, hs, hD, (hk.block r h2 hr').trans hr, rest⟩
theorem ranges_no_row {w : World} {k : TypeId} {R : Value → Option (DataW Unit × List MemPlace)} {b r n g : Nat} {D : DataW Unit} {left : Lit → Bool} {c : Nat} {L : List Nat} (h : w.ranges Try.prog k R b r n D left c) (hp : Pg w g L) : g ≠ r := fun e => by
  subst e
  obtain ⟨es, clock, since, seen, c0, hb, F, hs, hD, hr, rest⟩ := h
  rw [show w.heap[g]? = _ from hp] at hr
  cases hr
/-- where twin's loop stands: what is no longer to come has its page anew -/
def TwinAt (w wr : World) (B' : Nat) (T : Nat → Option Nat) (M : Nat → Nat) (left : Lit → Bool) (c : Nat) : Prop :=
  ∃ (T' : Nat → Option Nat) (n : Nat), MapT wr B' T' n ∧ n + c ≤ cnt M ∧ (∀ k : Nat, left (.int .u64 (k : Int)) = true ∨ T k = none → T' k = none) ∧ (∀ (k g : Nat), left (.int .u64 (k : Int)) = false → T k = some g → ∃ g', T' k = some g') ∧ (∀ k g', T' k = some g' → Pg wr g' (pageOf M k) ∧ w.heap.size ≤ g') ∧ (∀ k k' g, T' k = some g → T' k' = some g → k = k') ∧ Below w.heap.size w wr
theorem Pg.no_map {w : World} {g B n : Nat} {L : List Nat} {T : Nat → Option Nat} (h : Pg w g L) (hM : MapT w B T n) : g ≠ B := fun e => by
  subst e
  exact hM.no_row h
theorem TwinAt.keeps {S : Nat → Prop} {w wr w1 : World} {B' : Nat} {T : Nat → Option Nat} {M : Nat → Nat} {left : Lit → Bool} {c : Nat} (h : TwinAt w wr B' T M left c) (hk : Keeps S wr w1) (hB : ¬ S B') (hP : ∀ g L, Pg wr g L → w.heap.size ≤ g → ¬ S g) (hS : ∀ j, S j → w.heap.size ≤ j) : TwinAt w w1 B' T M left c := by
  obtain ⟨T', n, h1, h2, h3, h4, h5, h6, h7⟩ := h
  exact ⟨T', n, h1.keeps hk hB, h2, h3, h4, fun k g e => ⟨(h5 k g e).1.keeps hk (hP g _ (h5 k g e).1 (h5 k g e).2), (h5 k g e).2⟩, h6, h7.trans (hk.below h7.size (fun i _ hs => hS i hs))⟩
theorem sameKey_int {a b : Nat} (h : (Lit.int .u64 (a : Int)).sameKey (.int .u64 (b : Int)) = true) : a = b := by
  have := (Lit.int.inj (WideAt.sameKey_eq h)).2
  omega
theorem TwinAt.put {w w2 w3 : World} {B' k g0 g2 : Nat} {T T' : Nat → Option Nat} {M : Nat → Nat} {left : Lit → Bool} {c c1 n : Nat} (hn : n + c ≤ cnt M) (h3 : ∀ k : Nat, left (.int .u64 (k : Int)) = true ∨ T k = none → T' k = none) (h4 : ∀ (k g : Nat), left (.int .u64 (k : Int)) = false → T k = some g → ∃ g', T' k = some g') (h5 : ∀ k g', T' k = some g' → Pg w2 g' (pageOf M k) ∧ w.heap.size ≤ g') (h6 : ∀ k k' g, T' k = some g → T' k' = some g → k = k') (h7 : Below w.heap.size w w2)
    (hBl : w.heap.size ≤ B') (hM2 : MapT w2 B' T' n) (hT : T k = some g0) (hc : c1 < c) (hp : Pg w2 g2 (pageOf M k)) (hg2 : w.heap.size ≤ g2) (hfresh : ∀ j, T' j ≠ some g2) (hM : MapT w3 B' (upd T' k (some g2)) (n + 1)) (hk : Keeps (fun j => j = B') w2 w3) : TwinAt w w3 B' T M (fun z => left z && !z.sameKey (.int .u64 (k : Int))) c1 := by
  refine ⟨upd T' k (some g2), n + 1, hM, by omega, fun j hj => ?_, fun j g hl ht => ?_, fun j g' e => ?_, fun j j' g e e' => ?_, h7.trans (hk.below h7.size (fun i _ hs => by omega))⟩
  · by_cases e : j = k
    · subst e
      rcases hj with hj | hj
      · have : (Lit.int .u64 (j : Int)).sameKey (.int .u64 (j : Int)) = true := WideAt.sameKey_self (isKey j)
        have hj2 : (left (.int .u64 (j : Int)) && !(Lit.int .u64 (j : Int)).sameKey (.int .u64 (j : Int))) = true := hj
        rw [this] at hj2
        simp at hj2
      · rw [hT] at hj; cases hj
    · rw [upd_other _ _ e]
      refine h3 j (hj.imp (fun h => ?_) id)
      rw [Bool.and_eq_true] at h
      exact h.1
  · by_cases e : j = k
    · subst e
      exact ⟨g2, upd_same _ _ _⟩
    · rw [upd_other _ _ e]
      have hl2 : (left (.int .u64 (j : Int)) && !(Lit.int .u64 (j : Int)).sameKey (.int .u64 (k : Int))) = false := hl
      refine h4 j g ?_ ht
      cases hlj : left (.int .u64 (j : Int)) with
      | false => rfl
      | true =>
        rw [hlj, Bool.true_and, Bool.not_eq_false'] at hl2
        exact absurd (sameKey_int hl2) e
  · by_cases e1 : j = k
    · subst e1
      rw [upd_same] at e
      cases e
      exact ⟨hp.keeps hk (hp.no_map hM2), hg2⟩
    · rw [upd_other _ _ e1] at e
      exact ⟨(h5 j g' e).1.keeps hk ((h5 j g' e).1.no_map hM2), (h5 j g' e).2⟩
  · by_cases e1 : j = k
    · by_cases e2 : j' = k
      · rw [e1, e2]
      · subst e1
        rw [upd_same] at e
        cases e
        rw [upd_other _ _ e2] at e'
        exact absurd e' (hfresh _)
    · by_cases e2 : j' = k
      · subst e2
        rw [upd_same] at e'
        cases e'
        rw [upd_other _ _ e1] at e
        exact absurd e (hfresh _)
      · rw [upd_other _ _ e1] at e
        rw [upd_other _ _ e2] at e'
        exact h6 _ _ _ e e'
theorem wpList_store_page {w w0 : World} {ops : Array Oper} {rest : List Oper} {o : Oper} {a : Act} {Q : Exit → Act → World → Prop} (hgd : o.guard = none) (x v : Operand) (ho : o.op = .store 158 x v) {g : Nat} {L : List Nat} (hx : a.eval x = .pointer (some ⟨g, 0, none⟩)) (hv : a.eval v = .agg (bvs L).toArray) (hl : L.length = 4096) (hw : w = w0.alloc (.cells (bvs zeros4).toArray 158)) (hg : g = w0.heap.size)
    (h : ∀ w', w' = w0.alloc (.cells (bvs L).toArray 158) → wpList Try.prog ops Q rest (a.put o.dst undef) w') : wpList Try.prog ops Q (o :: rest) a w := by
  subst hw hg
  have hi := info_page
  have hsz : (Try.prog.info? 158).map (·.size) = some (bvs L).toArray.size := by
    rw [List.size_toArray, bvs_length, hl]
    cases hq : Try.prog.info? 158 with
    | none => rw [hq] at hi; cases hi
    | some i =>
      rw [hq] at hi
      simp only [Option.map_some, Option.some.injEq, Prod.mk.injEq] at hi
      rw [Option.map_some, hi.2]
  have hr := run_storeAt_new (P := Try.prog) w0 158 (bvs zeros4).toArray (bvs L).toArray hsz (by rw [List.size_toArray, List.size_toArray, bvs_length, bvs_length, hl]; exact List.length_replicate) (by
    rw [Array.all_eq_true_iff_forall_mem]
    intro u hu
    exact bvs_one L u (by simpa using hu))
  refine wpList_plain hgd fun K hK => ?_
  unfold Oper.wp execOp
  simp only [ho, hx, hv, Sem.run_bind, Sem.run_pure, Result.andThen_ok, hr]
  exact hK _ _ (h _ rfl)
theorem run_makeMap_hint (n : Nat) (w : World) : (Instr.makeMap 66 (some (.int .i64 (n : Int)))).run Try.prog w = .ok (.map (some w.heap.size)) (w.alloc (.map #[] 0)) := by
  simp [Instr.makeMap, run_underlying Try.underlying66, asInt, asIntOf]
end Go.Proofs.Ytmaahompmgmkfaa
