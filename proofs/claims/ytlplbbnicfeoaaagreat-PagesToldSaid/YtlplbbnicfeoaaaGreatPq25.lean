import Derived.Test.YtlplbbnicfeoaaaGreatPq08
import Derived.Test.YtlplbbnicfeoaaaGreatPq11
import Derived.Test.YtlplbbnicfeoaaaGreatPq03
import Derived.Test.YtlplbbnicfeoaaaGreatRows
import Derived.RangeFuncNested
import Derived.RangeFuncBound
import Derived.RangeFuncCalls
import Derived.RangeFuncLeaves
import Derived.Lib.Hide
import Derived.Test.YtlplbbnicfeoaaaGreatPq00
/- Pages: tree. Own work. -/
namespace Go.Proofs.YtlplbbnicfeoaaaGreat
open Go.RowKit Wk
set_option linter.unusedVariables false
/-- what is counted ahead of an entry of a middle table -/
def H2 (A B : Nat → Bool) (j k : Nat) : Nat := 1 + cntB A (j + 1) + cntB B (j * 512 + k)
theorem h2_zero {A B : Nat → Bool} {j : Nat} (h : A j = true) : H2 A B j 0 = T1 A B j + 1 := by
  unfold H2 T1
  simp only [cntB, h, if_true, Nat.add_zero]
  omega
theorem h2_end (A B : Nat → Bool) (j : Nat) : H2 A B j 512 = T1 A B (j + 1) := by
  unfold H2 T1
  rw [show j * 512 + 512 = (j + 1) * 512 by omega]
theorem h2_yes {A B : Nat → Bool} {j k : Nat} (h : B (j * 512 + k) = true) : H2 A B j (k + 1) = H2 A B j k + 1 := by
  unfold H2
  rw [show j * 512 + (k + 1) = j * 512 + k + 1 by omega]
  simp only [cntB, h, if_true]
  omega
theorem h2_no {A B : Nat → Bool} {j k : Nat} (h : B (j * 512 + k) = false) : H2 A B j (k + 1) = H2 A B j k := by
  unfold H2
  rw [show j * 512 + (k + 1) = j * 512 + k + 1 by omega]
  simp only [cntB, h]
  simp
theorem t1_no {base : Nat} {s : Bst} (hc : Cl base s) {j : Nat} (h : s.A j = false) : T1 s.A s.B (j + 1) = T1 s.A s.B j := by
  unfold T1
  rw [cntB_none (f := s.B) (a := j * 512) (b := (j + 1) * 512) (by omega) (fun i h1 h2 => by
    cases hb : s.B i with
    | false => rfl
    | true => have := hc.BA i hb; rw [show i / 512 = j by omega, h] at this; cases this)]
  simp only [cntB, h]
  simp
theorem t1_last {base : Nat} {s : Bst} (hc : Cl base s) : T1 s.A s.B 512 = s.nx := by
  have h0 := hc.n0
  have h1 := hc.n1
  rw [hc.nx]
  unfold T1
  rw [cntB_none (f := s.A) (a := s.n0) (b := 512) h0 (fun i h1 _ => hc.noA h1), cntB_none (f := s.B) (a := s.n1) (b := 512 * 512) h1 (fun i h1 _ => hc.noB h1)]
theorem t2_h2 (A B : Nat → Bool) {j k : Nat} (hk : k < 512) : T2 A B (j * 512 + k) = H2 A B j k := by
  unfold T2 H2
  rw [show (j * 512 + k) / 512 = j by omega]
theorem h2_bound {base : Nat} {s : Bst} (hc : Cl base s) (j k : Nat) : H2 s.A s.B j k ≤ s.nx := by
  have h1 := hc.cA (a := j + 1)
  have h2 : cntB s.B (j * 512 + k) ≤ cntB s.B s.n1 := by
    by_cases e : j * 512 + k ≤ s.n1
    · exact cntB_mono _ e
    · rw [cntB_none (f := s.B) (a := s.n1) (b := j * 512 + k) (by omega) (fun i hi _ => hc.noB hi)]
      exact Nat.le_refl _
  rw [hc.nx]
  unfold H2
  omega
theorem t1_bound {base : Nat} {s : Bst} (hc : Cl base s) (j : Nat) : T1 s.A s.B j ≤ s.nx := by
  have h1 := hc.cA (a := j)
  have h2 : cntB s.B (j * 512) ≤ cntB s.B s.n1 := by
    by_cases e : j * 512 ≤ s.n1
    · exact cntB_mono _ e
    · rw [cntB_none (f := s.B) (a := s.n1) (b := j * 512) (by omega) (fun i hi _ => hc.noB hi)]
      exact Nat.le_refl _
  rw [hc.nx]
  unfold T1
  omega
theorem GAt.same {w w' : World} {G n : Nat} {M : Nat → Nat} (h : GAt w G n M) (hb : Below w.heap.size w w') : GAt w' G n M := h.below hb
theorem ent_call {e : Nat} {l : Int} {r : Wk.Ent × Int} (he : e < 18446744073709551616) (hr : entB e l = r) (w : World) : Calls Tryz.prog 82 #[.int .u64 (e : Int), .int .i64 l] w fun x w' => x = .returned (.tuple #[.agg #[.int .u64 (r.1.1 : Int), .bool r.1.2.1, .bool r.1.2.2.1, .bool r.1.2.2.2.1, .bool r.1.2.2.2.2], .int .i64 r.2]) ∧ Below w.heap.size w w' := by
  have h := entry_any he l w
  rw [hr] at h
  exact h
end Go.Proofs.YtlplbbnicfeoaaaGreat
/- A range over a function, its record in sight: for iterators that write cells. Own work. -/
namespace Go.Proofs.YtlplbbnicfeoaaaGreat
open Go.RowKit
/-- a loop's record in a state -/
def recS (r : Loop) (st : LoopState) (pe : Option Code) : Loop := { r with state := st, pending := pe }
/-- the record at its block -/
def RecAt (W : World) (l : Nat) (r : Loop) (st : LoopState) (pe : Option Code) : Prop := W.heap[l]? = some (.loop (recS r st pe))
theorem RecAt.lt {W : World} {l : Nat} {r : Loop} {st : LoopState} {pe : Option Code} (h : RecAt W l r st pe) : l < W.heap.size := (Array.getElem?_eq_some_iff.1 (show W.heap[l]? = _ from h)).1
/-- what a round's body must come to -/
def roundP (l : Nat) (r : Loop) (R : Ending → World → Prop) : Exit → Act → World → Prop
  | .normal, _, w => RecAt w l r .busy none ∧ R (.returned (.bool true)) (w.putObj l (.loop (recS r .ready none)))
  | .ret, _, w => RecAt w l r .busy none ∧ R (.returned (.bool false)) (w.putObj l (.loop (recS r .done (some .ret))))
  | .exit id, _, w => RecAt w l r .busy none ∧ R (.returned (.bool false)) (w.putObj l (.loop (recS r .done (some (.exit id)))))
  | _, _, _ => False
variable {F : Fence} {n : Nat} {P : Program}
/-- one round out of its assignments and its body -/
theorem yield_of {l : Nat} {r : Loop} {args : Array Value} {W : World} {R : Ending → World → Prop} (hl : RecAt W l r .ready none) (hs : args.size = r.params.size) (hF : F.fn r.fn)
    (h : r.assign.wpIn (F.inRound l) n P (Exit.then (fun a1 w1 => RecAt w1 l r .ready none ∧ (RecAt (w1.putObj l (.loop (recS r .busy none))) l r .busy none → r.body.wpIn (F.inRound l) n P (roundP l r R) a1 (w1.putObj l (.loop (recS r .busy none))))) (fun _ _ _ => False))
      { tmps := (r.params.zip args).foldl (fun t (p, v) => t.setIfInBounds p v) r.tmps, defers := [] } W) : YieldAt F n P l args W R := by
  have hy := run_yield (P := P) (args := args) hl (by simpa [recS] using hs)
  refine ⟨r.fn, _, r.assign, r.body, hy, roundIn_of_wpIn hF (wpIn_mono h ?_)⟩
  intro e a1 w1 hp
  cases e with
  | normal =>
    obtain ⟨hr, hb⟩ := hp
    have hrun := run_beginRound (P := P) hr rfl
    refine ⟨_, hrun, wpIn_mono (hb (World.putObj_heap_same hr.lt)) ?_⟩
    intro e2 a2 w2 hp2
    cases e2 with
    | normal => exact ⟨_, _, run_endRound (P := P) none hp2.1, hp2.2⟩
    | ret => exact ⟨_, _, run_endRound (P := P) (some .ret) hp2.1, hp2.2⟩
    | exit id => exact ⟨_, _, run_endRound (P := P) (some (.exit id)) hp2.1, hp2.2⟩
    | goto t => exact hp2.elim
    | panic ch => exact hp2.elim
    | outgrown => exact hp2.elim
  | ret => exact hp.elim
  | exit id => exact hp.elim
  | goto t => exact hp.elim
  | panic ch => exact hp.elim
  | outgrown => exact hp.elim
/-- what the iterator must come to -/
def IterP (l : Nat) (r : Loop) (D : World → Prop) (S : Code → World → Prop) (e : Ending) (W : World) : Prop :=
  (∃ v, e = .returned v) ∧ ((RecAt W l r .ready none ∧ D (W.putObj l (.loop (recS r .exhausted none)))) ∨ ∃ c, RecAt W l r .done (some c) ∧ S c (W.putObj l (.loop (recS r .exhausted (some c)))))
theorem IterP.range {l : Nat} {r : Loop} {D : World → Prop} {S : Code → World → Prop} {Q : Exit → Act → World → Prop} {a : Act} (hD : ∀ W, D W → Q .normal a W) (hS : ∀ c W, S c W → c.wpIn F n P Q a W) (e : Ending) (W : World) (h : IterP l r D S e W) : rangePost F n P l Q a e W := by
  obtain ⟨⟨v, rfl⟩, ⟨hr, h⟩ | ⟨c, hr, h⟩⟩ := h
  · exact ⟨none, _, run_endLoop (P := P) hr (by simp [recS]), hD _ h⟩
  · exact ⟨some c, _, run_endLoop (P := P) hr (by simp [recS]), hS c _ h⟩
/-- an outermost loop -/
theorem range_out {g : Operand} {ps : Array Tmp} {assign body : Code} {Q : Exit → Act → World → Prop} {a : Act} {w : World} (hro : F.round = none) (h1 : 1 ≤ n) {gf : Nat} {lb : Array Value} (hg : a.eval g = .func (.func gf) #[] lb) (hFg : F.fn gf) (eg : ∀ args w, (callFunc gf args).run P w = .ok (.enter gf args) w)
    (D : World → Prop) (S : Code → World → Prop)
    (h : ∀ (W : World) (r : Loop), F.fn r.fn → r.tmps = a.tmps → r.params = ps → r.assign = assign → r.body = body → W = (w.alloc (.deferred (some []))).alloc (.loop (recS r .ready none)) →
      CallsIn F (n - 1) P gf (#[.func (.yield (w.heap.size + 1)) #[] #[]] ++ lb) W (IterP (w.heap.size + 1) r D S))
    (hD : ∀ W, D W → Q .normal { a with defers := { target := .collected w.heap.size, args := #[] } :: a.defers } W)
    (hS : ∀ c W, S c W → c.wpIn F n P Q { a with defers := { target := .collected w.heap.size, args := #[] } :: a.defers } W) :
    (Code.rangeFunc g ps assign body).wpIn F n P Q a w := by
  refine wpIn_rangeFunc ?_
  intro fn hfn
  rw [hro]
  obtain ⟨r, hr⟩ : ∃ r : Loop, r = { state := .ready, pending := none, fn, tmps := a.tmps, params := ps, assign, body, defers := w.heap.size } := ⟨_, rfl⟩
  obtain ⟨W1, hW1⟩ : ∃ W1, W1 = (w.alloc (.deferred (some []))).alloc (.loop (recS r .ready none)) := ⟨_, rfl⟩
  have he : (Instr.enterLoop fn a.tmps ps assign body none).run P w = .ok (w.heap.size + 1, [{ target := .collected w.heap.size, args := #[] }]) W1 := by
    rw [hW1, hr]
    exact run_enterLoop_outer _ _ _ _ _
  have hc : CallsIn F (n - 1) P gf (#[.func (.yield (w.heap.size + 1)) #[] #[]] ++ lb) W1 (rangePost F n P (w.heap.size + 1) Q { a with defers := [{ target := .collected w.heap.size, args := #[] }] ++ a.defers }) :=
    (h W1 r (by rw [hr]; exact hfn) (by rw [hr]) (by rw [hr]) (by rw [hr]) (by rw [hr]) hW1).mono (IterP.range (a := { a with defers := [{ target := .collected w.heap.size, args := #[] }] ++ a.defers }) hD hS)
  clear hW1 hr h
  refine ⟨w.heap.size + 1, [{ target := .collected w.heap.size, args := #[] }], W1, { target := .fn (.func gf) lb, args := #[.func (.yield (w.heap.size + 1)) #[] #[]] }, W1, gf,
    #[.func (.yield (w.heap.size + 1)) #[] #[]] ++ lb, W1, he, ?_, ?_, ?_, fun _ => h1, ?_⟩
  · simp only [resolve, hg]
    simp [go_sem]
  · intro f' hf'; simp [Target.leads] at hf'; subst hf'; exact hFg
  · simp [invoke, go_sem, eg]
  · exact hc
/-- a loop within a round -/
theorem range_in {g : Operand} {ps : Array Tmp} {assign body : Code} {Q : Exit → Act → World → Prop} {a : Act} {w : World} {l₀ : Nat} {r₀ : Loop} (hro : F.round = some l₀) (hl₀ : w.heap[l₀]? = some (.loop r₀)) (h1 : 1 ≤ n) {gf : Nat} {lb : Array Value} (hg : a.eval g = .func (.func gf) #[] lb) (hFg : F.fn gf) (eg : ∀ args w, (callFunc gf args).run P w = .ok (.enter gf args) w)
    (D : World → Prop) (S : Code → World → Prop)
    (h : ∀ (W : World) (r : Loop), F.fn r.fn → r.tmps = a.tmps → r.params = ps → r.assign = assign → r.body = body → W = w.alloc (.loop (recS r .ready none)) →
      CallsIn F (n - 1) P gf (#[.func (.yield w.heap.size) #[] #[]] ++ lb) W (IterP w.heap.size r D S))
    (hD : ∀ W, D W → Q .normal a W)
    (hS : ∀ c W, S c W → c.wpIn F n P Q a W) :
    (Code.rangeFunc g ps assign body).wpIn F n P Q a w := by
  refine wpIn_rangeFunc ?_
  intro fn hfn
  rw [hro]
  obtain ⟨r, hr⟩ : ∃ r : Loop, r = { state := .ready, pending := none, fn, tmps := a.tmps, params := ps, assign, body, defers := r₀.defers } := ⟨_, rfl⟩
  obtain ⟨W1, hW1⟩ : ∃ W1, W1 = w.alloc (.loop (recS r .ready none)) := ⟨_, rfl⟩
  have he : (Instr.enterLoop fn a.tmps ps assign body (some l₀)).run P w = .ok (w.heap.size, []) W1 := by
    rw [hW1, hr]
    exact run_enterLoop_inner hl₀ _ _ _ _ _
  have hc : CallsIn F (n - 1) P gf (#[.func (.yield w.heap.size) #[] #[]] ++ lb) W1 (rangePost F n P w.heap.size Q { a with defers := [] ++ a.defers }) := (h W1 r (by rw [hr]; exact hfn) (by rw [hr]) (by rw [hr]) (by rw [hr]) (by rw [hr]) hW1).mono (IterP.range (a := { a with defers := [] ++ a.defers }) hD hS)
  clear hW1 hr h
  refine ⟨w.heap.size, [], W1, { target := .fn (.func gf) lb, args := #[.func (.yield w.heap.size) #[] #[]] }, W1, gf,
    #[.func (.yield w.heap.size) #[] #[]] ++ lb, W1, he, ?_, ?_, ?_, fun _ => h1, ?_⟩
  · simp only [resolve, hg]
    simp [go_sem]
  · intro f' hf'; simp [Target.leads] at hf'; subst hf'; exact hFg
  · simp [invoke, go_sem, eg]
  · exact hc
end Go.Proofs.YtlplbbnicfeoaaaGreat
/- Leaves, as a function: a state that looks and tells move on. Own work. -/
namespace Go.Proofs.YtlplbbnicfeoaaaGreat.Lv
open Wk
/-- an entry where it stands: its address, its level, what it says, why not -/
abbrev Slt := Nat × Nat × Ent × Int
/-- how far an entry of a level reaches -/
def rch (lev : Nat) : Nat := if lev = 0 then 1073741824 else if lev = 1 then 2097152 else 4096
structure St (σ : Type) where
  s : σ
  left : Nat
  go : Bool
section
variable {σ : Type} (lk : σ → Nat → Nat → Nat → (Ent × Int) × σ) (yd : σ → Slt → σ) (ct : σ → Slt → Bool)
/-- an entry is come by: a table counts, all else is told -/
def visitS (t : St σ) (x : Slt) : St σ :=
  if x.2.2.1.2.1 then { t with left := t.left - 1, go := decide (1 < t.left) }
  else { s := yd t.s x, left := t.left - 1, go := ct t.s x && decide (1 < t.left) }
/-- the slot of an entry -/
def slotS (virt lev i : Nat) (r : Ent × Int) : Slt := (virt + i * rch lev, lev, r.1, r.2)
/-- the entry i of a table -/
def stepS (deep : Nat → Nat → Nat → St σ → St σ) (fr virt lev i : Nat) (t : St σ) : St σ :=
  if (lk t.s fr i lev).1.2 = 41 then { t with s := (lk t.s fr i lev).2 }
  else if (visitS yd ct { t with s := (lk t.s fr i lev).2 } (slotS virt lev i (lk t.s fr i lev).1)).go && (lk t.s fr i lev).1.1.2.1 then
    deep (lk t.s fr i lev).1.1.1 (virt + i * rch lev) (lev + 1) (visitS yd ct { t with s := (lk t.s fr i lev).2 } (slotS virt lev i (lk t.s fr i lev).1))
  else visitS yd ct { t with s := (lk t.s fr i lev).2 } (slotS virt lev i (lk t.s fr i lev).1)
/-- the first entries of a table -/
def tabN (deep : Nat → Nat → Nat → St σ → St σ) (fr virt lev : Nat) : Nat → St σ → St σ
  | 0, t => t
  | i + 1, t => if (tabN deep fr virt lev i t).go then stepS lk yd ct deep fr virt lev i (tabN deep fr virt lev i t) else tabN deep fr virt lev i t
def deep3 (_ _ _ : Nat) (t : St σ) : St σ := t
def deep2 (fr virt lev : Nat) (t : St σ) : St σ := tabN lk yd ct deep3 fr virt lev 512 t
def deep1 (fr virt lev : Nat) (t : St σ) : St σ := tabN lk yd ct (deep2 lk yd ct) fr virt lev 512 t
def allS (root : Nat) (t : St σ) : St σ := tabN lk yd ct (deep1 lk yd ct) root 0 0 512 t
variable {lk yd ct}
theorem tabN_go {deep : Nat → Nat → Nat → St σ → St σ} {fr virt lev i : Nat} {t : St σ} (h : (tabN lk yd ct deep fr virt lev i t).go = true) : tabN lk yd ct deep fr virt lev (i + 1) t = stepS lk yd ct deep fr virt lev i (tabN lk yd ct deep fr virt lev i t) := by
  rw [tabN, if_pos h]
theorem tabN_stop {deep : Nat → Nat → Nat → St σ → St σ} {fr virt lev i : Nat} {t : St σ} (h : (tabN lk yd ct deep fr virt lev i t).go = false) : ∀ m, tabN lk yd ct deep fr virt lev (i + m) t = tabN lk yd ct deep fr virt lev i t
  | 0 => rfl
  | m + 1 => by
    rw [← Nat.add_assoc, tabN, tabN_stop h m, if_neg (by rw [h]; decide)]
theorem tabN_end {deep : Nat → Nat → Nat → St σ → St σ} {fr virt lev i : Nat} {t : St σ} (h : (tabN lk yd ct deep fr virt lev i t).go = false) (hi : i ≤ 512) : tabN lk yd ct deep fr virt lev 512 t = tabN lk yd ct deep fr virt lev i t := by
  have := tabN_stop h (512 - i)
  rwa [show i + (512 - i) = 512 from by omega] at this
/-- how many looks -/
theorem cnt_visit {cnt : σ → Nat} (hy : ∀ s x, cnt (yd s x) ≤ cnt s) (t : St σ) (x : Slt) : cnt (visitS yd ct t x).s ≤ cnt t.s := by
  unfold visitS
  split
  · exact Nat.le_refl _
  · exact hy _ _
theorem cnt_step {cnt : σ → Nat} (hl : ∀ s a b c, cnt (lk s a b c).2 ≤ cnt s + 1) (hy : ∀ s x, cnt (yd s x) ≤ cnt s) {deep : Nat → Nat → Nat → St σ → St σ} {q : Nat} (hd : ∀ a b c t, cnt (deep a b c t).s ≤ cnt t.s + q) (fr virt lev i : Nat) (t : St σ) : cnt (stepS lk yd ct deep fr virt lev i t).s ≤ cnt t.s + (q + 1) := by
  have h1 := hl t.s fr i lev
  have h2 := cnt_visit (ct := ct) hy { t with s := (lk t.s fr i lev).2 } (slotS virt lev i (lk t.s fr i lev).1)
  have h2' : cnt (visitS yd ct { t with s := (lk t.s fr i lev).2 } (slotS virt lev i (lk t.s fr i lev).1)).s ≤ cnt (lk t.s fr i lev).2 := h2
  unfold stepS
  split
  · show cnt (lk t.s fr i lev).2 ≤ _; omega
  · split
    · have := hd (lk t.s fr i lev).1.1.1 (virt + i * rch lev) (lev + 1) (visitS yd ct { t with s := (lk t.s fr i lev).2 } (slotS virt lev i (lk t.s fr i lev).1))
      omega
    · omega
theorem cnt_tab {cnt : σ → Nat} (hl : ∀ s a b c, cnt (lk s a b c).2 ≤ cnt s + 1) (hy : ∀ s x, cnt (yd s x) ≤ cnt s) {deep : Nat → Nat → Nat → St σ → St σ} {q : Nat} (hd : ∀ a b c t, cnt (deep a b c t).s ≤ cnt t.s + q) (fr virt lev : Nat) (t : St σ) : ∀ i, cnt (tabN lk yd ct deep fr virt lev i t).s ≤ cnt t.s + i * (q + 1)
  | 0 => by simp [tabN]
  | i + 1 => by
    have := cnt_tab hl hy hd fr virt lev t i
    rw [tabN, Nat.succ_mul]
    split
    · have := cnt_step (ct := ct) hl hy hd fr virt lev i (tabN lk yd ct deep fr virt lev i t)
      omega
    · omega
theorem cnt3 {cnt : σ → Nat} (a b c : Nat) (t : St σ) : cnt (deep3 a b c t).s ≤ cnt t.s + 0 := Nat.le_refl _
theorem cnt2 {cnt : σ → Nat} (hl : ∀ s a b c, cnt (lk s a b c).2 ≤ cnt s + 1) (hy : ∀ s x, cnt (yd s x) ≤ cnt s) (a b c : Nat) (t : St σ) : cnt (deep2 lk yd ct a b c t).s ≤ cnt t.s + 512 := cnt_tab (ct := ct) hl hy cnt3 a b c t 512
theorem cnt1 {cnt : σ → Nat} (hl : ∀ s a b c, cnt (lk s a b c).2 ≤ cnt s + 1) (hy : ∀ s x, cnt (yd s x) ≤ cnt s) (a b c : Nat) (t : St σ) : cnt (deep1 lk yd ct a b c t).s ≤ cnt t.s + 262656 := cnt_tab (ct := ct) hl hy (cnt2 (ct := ct) hl hy) a b c t 512
end
end Go.Proofs.YtlplbbnicfeoaaaGreat.Lv
