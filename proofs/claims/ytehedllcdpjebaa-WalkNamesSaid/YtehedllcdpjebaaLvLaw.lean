/- A range over a function, its record in sight: for iterators that write cells. Own work. -/
import Derived.Test.YtehedllcdpjebaaRows
import Derived.RangeFuncNested
import Derived.RangeFuncBound
import Derived.RangeFuncCalls
import Derived.RangeFuncLeaves
import Derived.Lib.Hide
namespace Go.Proofs.Ytehedllcdpjebaa
open Go.RowKit
/-- a loop's record in a state -/
def recS (r : Loop) (st : LoopState) (pe : Option Code) : Loop := { r with state := st, pending := pe }
/-- the record at its block -/
def RecAt (W : World) (l : Nat) (r : Loop) (st : LoopState) (pe : Option Code) : Prop := W.heap[l]? = some (.loop (recS r st pe))
theorem RecAt.lt {W : World} {l : Nat} {r : Loop} {st : LoopState} {pe : Option Code} (h : RecAt W l r st pe) : l < W.heap.size := (Array.getElem?_eq_some_iff.1 (show W.heap[l]? = _ from h)).1
/-- what a round's body must come to -/
def roundP (l : Nat) (r : Loop) (R : Ending → World → Prop) : Exit → Act → World → Prop
  | .normal, _, w => RecAt w l r .busy none ∧ R (.returned (.bool true)) (w.putObj l (.loop (recS r .ready none)))
  | .ret, _, w => RecAt w l r .busy none ∧ R (.returned (.bool false)) (w.putObj l (.loop (recS r .done (some .ret))))
  | .exit id, _, w => RecAt w l r .busy none ∧ R (.returned (.bool false)) (w.putObj l (.loop (recS r .done (some (.exit id)))))
  | _, _, _ => False
variable {F : Fence} {n : Nat} {P : Program}
/-- one round out of its assignments and its body -/
theorem yield_of {l : Nat} {r : Loop} {args : Array Value} {W : World} {R : Ending → World → Prop} (hl : RecAt W l r .ready none) (hs : args.size = r.params.size) (hF : F.fn r.fn)
    (h : r.assign.wpIn (F.inRound l) n P (Exit.then (fun a1 w1 => RecAt w1 l r .ready none ∧ (RecAt (w1.putObj l (.loop (recS r .busy none))) l r .busy none → r.body.wpIn (F.inRound l) n P (roundP l r R) a1 (w1.putObj l (.loop (recS r .busy none))))) (fun _ _ _ => False))
      { tmps := (r.params.zip args).foldl (fun t (p, v) => t.setIfInBounds p v) r.tmps, defers := [] } W) : YieldAt F n P l args W R := by
  have hy := run_yield (P := P) (args := args) hl (by simpa [recS] using hs)
  refine ⟨r.fn, _, r.assign, r.body, hy, roundIn_of_wpIn hF (wpIn_mono h ?_)⟩
  intro e a1 w1 hp
  cases e with
  | normal =>
    obtain ⟨hr, hb⟩ := hp
    have hrun := run_beginRound (P := P) hr rfl
    refine ⟨_, hrun, wpIn_mono (hb (World.putObj_heap_same hr.lt)) ?_⟩
    intro e2 a2 w2 hp2
    cases e2 with
    | normal => exact ⟨_, _, run_endRound (P := P) none hp2.1, hp2.2⟩
    | ret => exact ⟨_, _, run_endRound (P := P) (some .ret) hp2.1, hp2.2⟩
    | exit id => exact ⟨_, _, run_endRound (P := P) (some (.exit id)) hp2.1, hp2.2⟩
    | goto t => exact hp2.elim
    | panic ch => exact hp2.elim
    | outgrown => exact hp2.elim
  | ret => exact hp.elim
  | exit id => exact hp.elim
  | goto t => exact hp.elim
  | panic ch => exact hp.elim
  | outgrown => exact hp.elim
/-- what the iterator must come to -/
def IterP (l : Nat) (r : Loop) (D : World → Prop) (S : Code → World → Prop) (e : Ending) (W : World) : Prop :=
  (∃ v, e = .returned v) ∧ ((RecAt W l r .ready none ∧ D (W.putObj l (.loop (recS r .exhausted none)))) ∨ ∃ c, RecAt W l r .done (some c) ∧ S c (W.putObj l (.loop (recS r .exhausted (some c)))))
theorem IterP.range {l : Nat} {r : Loop} {D : World → Prop} {S : Code → World → Prop} {Q : Exit → Act → World → Prop} {a : Act} (hD : ∀ W, D W → Q .normal a W) (hS : ∀ c W, S c W → c.wpIn F n P Q a W) (e : Ending) (W : World) (h : IterP l r D S e W) : rangePost F n P l Q a e W := by
  obtain ⟨⟨v, rfl⟩, ⟨hr, h⟩ | ⟨c, hr, h⟩⟩ := h
  · exact ⟨none, _, run_endLoop (P := P) hr (by simp [recS]), hD _ h⟩
  · exact ⟨some c, _, run_endLoop (P := P) hr (by simp [recS]), hS c _ h⟩
/-- an outermost loop -/
theorem range_out {g : Operand} {ps : Array Tmp} {assign body : Code} {Q : Exit → Act → World → Prop} {a : Act} {w : World} (hro : F.round = none) (h1 : 1 ≤ n) {gf : Nat} {lb : Array Value} (hg : a.eval g = .func (.func gf) #[] lb) (hFg : F.fn gf) (eg : ∀ args w, (callFunc gf args).run P w = .ok (.enter gf args) w)
    (D : World → Prop) (S : Code → World → Prop)
    (h : ∀ (W : World) (r : Loop), F.fn r.fn → r.tmps = a.tmps → r.params = ps → r.assign = assign → r.body = body → W = (w.alloc (.deferred (some []))).alloc (.loop (recS r .ready none)) →
      CallsIn F (n - 1) P gf (#[.func (.yield (w.heap.size + 1)) #[] #[]] ++ lb) W (IterP (w.heap.size + 1) r D S))
    (hD : ∀ W, D W → Q .normal { a with defers := { target := .collected w.heap.size, args := #[] } :: a.defers } W)
    (hS : ∀ c W, S c W → c.wpIn F n P Q { a with defers := { target := .collected w.heap.size, args := #[] } :: a.defers } W) :
    (Code.rangeFunc g ps assign body).wpIn F n P Q a w := by
  refine wpIn_rangeFunc ?_
  intro fn hfn
  rw [hro]
  obtain ⟨r, hr⟩ : ∃ r : Loop, r = { state := .ready, pending := none, fn, tmps := a.tmps, params := ps, assign, body, defers := w.heap.size } := ⟨_, rfl⟩
  obtain ⟨W1, hW1⟩ : ∃ W1, W1 = (w.alloc (.deferred (some []))).alloc (.loop (recS r .ready none)) := ⟨_, rfl⟩
  have he : (Instr.enterLoop fn a.tmps ps assign body none).run P w = .ok (w.heap.size + 1, [{ target := .collected w.heap.size, args := #[] }]) W1 := by
    rw [hW1, hr]
    exact run_enterLoop_outer _ _ _ _ _
  have hc : CallsIn F (n - 1) P gf (#[.func (.yield (w.heap.size + 1)) #[] #[]] ++ lb) W1 (rangePost F n P (w.heap.size + 1) Q { a with defers := [{ target := .collected w.heap.size, args := #[] }] ++ a.defers }) :=
    (h W1 r (by rw [hr]; exact hfn) (by rw [hr]) (by rw [hr]) (by rw [hr]) (by rw [hr]) hW1).mono (IterP.range (a := { a with defers := [{ target := .collected w.heap.size, args := #[] }] ++ a.defers }) hD hS)
  clear hW1 hr h
  refine ⟨w.heap.size + 1, [{ target := .collected w.heap.size, args := #[] }], W1, { target := .fn (.func gf) lb, args := #[.func (.yield (w.heap.size + 1)) #[] #[]] }, W1, gf,
    #[.func (.yield (w.heap.size + 1)) #[] #[]] ++ lb, W1, he, ?_, ?_, ?_, fun _ => h1, ?_⟩
  · simp only [resolve, hg]
    simp [go_sem]
  · intro f' hf'; simp [Target.leads] at hf'; subst hf'; exact hFg
  · simp [invoke, go_sem, eg]
  · exact hc
/-- a loop within a round -/
theorem range_in {g : Operand} {ps : Array Tmp} {assign body : Code} {Q : Exit → Act → World → Prop} {a : Act} {w : World} {l₀ : Nat} {r₀ : Loop} (hro : F.round = some l₀) (hl₀ : w.heap[l₀]? = some (.loop r₀)) (h1 : 1 ≤ n) {gf : Nat} {lb : Array Value} (hg : a.eval g = .func (.func gf) #[] lb) (hFg : F.fn gf) (eg : ∀ args w, (callFunc gf args).run P w = .ok (.enter gf args) w)
    (D : World → Prop) (S : Code → World → Prop)
    (h : ∀ (W : World) (r : Loop), F.fn r.fn → r.tmps = a.tmps → r.params = ps → r.assign = assign → r.body = body → W = w.alloc (.loop (recS r .ready none)) →
      CallsIn F (n - 1) P gf (#[.func (.yield w.heap.size) #[] #[]] ++ lb) W (IterP w.heap.size r D S))
    (hD : ∀ W, D W → Q .normal a W)
    (hS : ∀ c W, S c W → c.wpIn F n P Q a W) :
    (Code.rangeFunc g ps assign body).wpIn F n P Q a w := by
  refine wpIn_rangeFunc ?_
  intro fn hfn
  rw [hro]
  obtain ⟨r, hr⟩ : ∃ r : Loop, r = { state := .ready, pending := none, fn, tmps := a.tmps, params := ps, assign, body, defers := r₀.defers } := ⟨_, rfl⟩
  obtain ⟨W1, hW1⟩ : ∃ W1, W1 = w.alloc (.loop (recS r .ready none)) := ⟨_, rfl⟩
  have he : (Instr.enterLoop fn a.tmps ps assign body (some l₀)).run P w = .ok (w.heap.size, []) W1 := by
    rw [hW1, hr]
    exact run_enterLoop_inner hl₀ _ _ _ _ _
  have hc : CallsIn F (n - 1) P gf (#[.func (.yield w.heap.size) #[] #[]] ++ lb) W1 (rangePost F n P w.heap.size Q { a with defers := [] ++ a.defers }) := (h W1 r (by rw [hr]; exact hfn) (by rw [hr]) (by rw [hr]) (by rw [hr]) (by rw [hr]) hW1).mono (IterP.range (a := { a with defers := [] ++ a.defers }) hD hS)
  clear hW1 hr h
  refine ⟨w.heap.size, [], W1, { target := .fn (.func gf) lb, args := #[.func (.yield w.heap.size) #[] #[]] }, W1, gf,
    #[.func (.yield w.heap.size) #[] #[]] ++ lb, W1, he, ?_, ?_, ?_, fun _ => h1, ?_⟩
  · simp only [resolve, hg]
    simp [go_sem]
  · intro f' hf'; simp [Target.leads] at hf'; subst hf'; exact hFg
  · simp [invoke, go_sem, eg]
  · exact hc
end Go.Proofs.Ytehedllcdpjebaa
