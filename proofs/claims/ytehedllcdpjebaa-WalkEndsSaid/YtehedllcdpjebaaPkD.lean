import Derived.Test.YtehedllcdpjebaaRows
import Derived.RangeFuncNested
import Derived.RangeFuncBound
import Derived.RangeFuncCalls
import Derived.RangeFuncLeaves
import Derived.Lib.Hide
import Derived.Test.YtehedllcdpjebaaWkBits
import Derived.Test.YtehedllcdpjebaaWkEnt
import Derived.Test.YtehedllcdpjebaaBWord
import Derived.Shelf.Abstract
import Derived.Shelf.RegionOpen
import Derived.WalkKit
import Derived.OwnWalkIn
import Derived.TacticsInMore
import Derived.LoopNIn
import Derived.LoopIn
import Derived.Deep.RegionHeld3
import Derived.Test.YtehedllcdpjebaaWkLeaf
/- A range over a function, its record in sight: for iterators that write cells. Own work. -/
namespace Go.Proofs.Ytehedllcdpjebaa
open Go.RowKit
/-- a loop's record in a state -/
def recS (r : Loop) (st : LoopState) (pe : Option Code) : Loop := { r with state := st, pending := pe }
/-- the record at its block -/
def RecAt (W : World) (l : Nat) (r : Loop) (st : LoopState) (pe : Option Code) : Prop := W.heap[l]? = some (.loop (recS r st pe))
theorem RecAt.lt {W : World} {l : Nat} {r : Loop} {st : LoopState} {pe : Option Code} (h : RecAt W l r st pe) : l < W.heap.size := (Array.getElem?_eq_some_iff.1 (show W.heap[l]? = _ from h)).1
/-- what a round's body must come to -/
def roundP (l : Nat) (r : Loop) (R : Ending → World → Prop) : Exit → Act → World → Prop
  | .normal, _, w => RecAt w l r .busy none ∧ R (.returned (.bool true)) (w.putObj l (.loop (recS r .ready none)))
  | .ret, _, w => RecAt w l r .busy none ∧ R (.returned (.bool false)) (w.putObj l (.loop (recS r .done (some .ret))))
  | .exit id, _, w => RecAt w l r .busy none ∧ R (.returned (.bool false)) (w.putObj l (.loop (recS r .done (some (.exit id)))))
  | _, _, _ => False
variable {F : Fence} {n : Nat} {P : Program}
/-- one round out of its assignments and its body -/
theorem yield_of {l : Nat} {r : Loop} {args : Array Value} {W : World} {R : Ending → World → Prop} (hl : RecAt W l r .ready none) (hs : args.size = r.params.size) (hF : F.fn r.fn)
    (h : r.assign.wpIn (F.inRound l) n P (Exit.then (fun a1 w1 => RecAt w1 l r .ready none ∧ (RecAt (w1.putObj l (.loop (recS r .busy none))) l r .busy none → r.body.wpIn (F.inRound l) n P (roundP l r R) a1 (w1.putObj l (.loop (recS r .busy none))))) (fun _ _ _ => False))
      { tmps := (r.params.zip args).foldl (fun t (p, v) => t.setIfInBounds p v) r.tmps, defers := [] } W) : YieldAt F n P l args W R := by
  have hy := run_yield (P := P) (args := args) hl (by simpa [recS] using hs)
  refine ⟨r.fn, _, r.assign, r.body, hy, roundIn_of_wpIn hF (wpIn_mono h ?_)⟩
  intro e a1 w1 hp
  cases e with
  | normal =>
    obtain ⟨hr, hb⟩ := hp
    have hrun := run_beginRound (P := P) hr rfl
    refine ⟨_, hrun, wpIn_mono (hb (World.putObj_heap_same hr.lt)) ?_⟩
    intro e2 a2 w2 hp2
    cases e2 with
    | normal => exact ⟨_, _, run_endRound (P := P) none hp2.1, hp2.2⟩
    | ret => exact ⟨_, _, run_endRound (P := P) (some .ret) hp2.1, hp2.2⟩
    | exit id => exact ⟨_, _, run_endRound (P := P) (some (.exit id)) hp2.1, hp2.2⟩
    | goto t => exact hp2.elim
    | panic ch => exact hp2.elim
    | outgrown => exact hp2.elim
  | ret => exact hp.elim
  | exit id => exact hp.elim
  | goto t => exact hp.elim
  | panic ch => exact hp.elim
  | outgrown => exact hp.elim
/-- what the iterator must come to -/
def IterP (l : Nat) (r : Loop) (D : World → Prop) (S : Code → World → Prop) (e : Ending) (W : World) : Prop :=
  (∃ v, e = .returned v) ∧ ((RecAt W l r .ready none ∧ D (W.putObj l (.loop (recS r .exhausted none)))) ∨ ∃ c, RecAt W l r .done (some c) ∧ S c (W.putObj l (.loop (recS r .exhausted (some c)))))
theorem IterP.range {l : Nat} {r : Loop} {D : World → Prop} {S : Code → World → Prop} {Q : Exit → Act → World → Prop} {a : Act} (hD : ∀ W, D W → Q .normal a W) (hS : ∀ c W, S c W → c.wpIn F n P Q a W) (e : Ending) (W : World) (h : IterP l r D S e W) : rangePost F n P l Q a e W := by
  obtain ⟨⟨v, rfl⟩, ⟨hr, h⟩ | ⟨c, hr, h⟩⟩ := h
  · exact ⟨none, _, run_endLoop (P := P) hr (by simp [recS]), hD _ h⟩
  · exact ⟨some c, _, run_endLoop (P := P) hr (by simp [recS]), hS c _ h⟩
/-- an outermost loop -/
theorem range_out {g : Operand} {ps : Array Tmp} {assign body : Code} {Q : Exit → Act → World → Prop} {a : Act} {w : World} (hro : F.round = none) (h1 : 1 ≤ n) {gf : Nat} {lb : Array Value} (hg : a.eval g = .func (.func gf) #[] lb) (hFg : F.fn gf) (eg : ∀ args w, (callFunc gf args).run P w = .ok (.enter gf args) w)
    (D : World → Prop) (S : Code → World → Prop)
    (h : ∀ (W : World) (r : Loop), F.fn r.fn → r.tmps = a.tmps → r.params = ps → r.assign = assign → r.body = body → W = (w.alloc (.deferred (some []))).alloc (.loop (recS r .ready none)) →
      CallsIn F (n - 1) P gf (#[.func (.yield (w.heap.size + 1)) #[] #[]] ++ lb) W (IterP (w.heap.size + 1) r D S))
    (hD : ∀ W, D W → Q .normal { a with defers := { target := .collected w.heap.size, args := #[] } :: a.defers } W)
    (hS : ∀ c W, S c W → c.wpIn F n P Q { a with defers := { target := .collected w.heap.size, args := #[] } :: a.defers } W) :
    (Code.rangeFunc g ps assign body).wpIn F n P Q a w := by
  refine wpIn_rangeFunc ?_
  intro fn hfn
  rw [hro]
  obtain ⟨r, hr⟩ : ∃ r : Loop, r = { state := .ready, pending := none, fn, tmps := a.tmps, params := ps, assign, body, defers := w.heap.size } := ⟨_, rfl⟩
  obtain ⟨W1, hW1⟩ : ∃ W1, W1 = (w.alloc (.deferred (some []))).alloc (.loop (recS r .ready none)) := ⟨_, rfl⟩
  have he : (Instr.enterLoop fn a.tmps ps assign body none).run P w = .ok (w.heap.size + 1, [{ target := .collected w.heap.size, args := #[] }]) W1 := by
    rw [hW1, hr]
    exact run_enterLoop_outer _ _ _ _ _
  have hc : CallsIn F (n - 1) P gf (#[.func (.yield (w.heap.size + 1)) #[] #[]] ++ lb) W1 (rangePost F n P (w.heap.size + 1) Q { a with defers := [{ target := .collected w.heap.size, args := #[] }] ++ a.defers }) :=
    (h W1 r (by rw [hr]; exact hfn) (by rw [hr]) (by rw [hr]) (by rw [hr]) (by rw [hr]) hW1).mono (IterP.range (a := { a with defers := [{ target := .collected w.heap.size, args := #[] }] ++ a.defers }) hD hS)
  clear hW1 hr h
  refine ⟨w.heap.size + 1, [{ target := .collected w.heap.size, args := #[] }], W1, { target := .fn (.func gf) lb, args := #[.func (.yield (w.heap.size + 1)) #[] #[]] }, W1, gf,
    #[.func (.yield (w.heap.size + 1)) #[] #[]] ++ lb, W1, he, ?_, ?_, ?_, fun _ => h1, ?_⟩
  · simp only [resolve, hg]
    simp [go_sem]
  · intro f' hf'; simp [Target.leads] at hf'; subst hf'; exact hFg
  · simp [invoke, go_sem, eg]
  · exact hc
/-- a loop within a round -/
theorem range_in {g : Operand} {ps : Array Tmp} {assign body : Code} {Q : Exit → Act → World → Prop} {a : Act} {w : World} {l₀ : Nat} {r₀ : Loop} (hro : F.round = some l₀) (hl₀ : w.heap[l₀]? = some (.loop r₀)) (h1 : 1 ≤ n) {gf : Nat} {lb : Array Value} (hg : a.eval g = .func (.func gf) #[] lb) (hFg : F.fn gf) (eg : ∀ args w, (callFunc gf args).run P w = .ok (.enter gf args) w)
    (D : World → Prop) (S : Code → World → Prop)
    (h : ∀ (W : World) (r : Loop), F.fn r.fn → r.tmps = a.tmps → r.params = ps → r.assign = assign → r.body = body → W = w.alloc (.loop (recS r .ready none)) →
      CallsIn F (n - 1) P gf (#[.func (.yield w.heap.size) #[] #[]] ++ lb) W (IterP w.heap.size r D S))
    (hD : ∀ W, D W → Q .normal a W)
    (hS : ∀ c W, S c W → c.wpIn F n P Q a W) :
    (Code.rangeFunc g ps assign body).wpIn F n P Q a w := by
  refine wpIn_rangeFunc ?_
  intro fn hfn
  rw [hro]
  obtain ⟨r, hr⟩ : ∃ r : Loop, r = { state := .ready, pending := none, fn, tmps := a.tmps, params := ps, assign, body, defers := r₀.defers } := ⟨_, rfl⟩
  obtain ⟨W1, hW1⟩ : ∃ W1, W1 = w.alloc (.loop (recS r .ready none)) := ⟨_, rfl⟩
  have he : (Instr.enterLoop fn a.tmps ps assign body (some l₀)).run P w = .ok (w.heap.size, []) W1 := by
    rw [hW1, hr]
    exact run_enterLoop_inner hl₀ _ _ _ _ _
  have hc : CallsIn F (n - 1) P gf (#[.func (.yield w.heap.size) #[] #[]] ++ lb) W1 (rangePost F n P w.heap.size Q { a with defers := [] ++ a.defers }) := (h W1 r (by rw [hr]; exact hfn) (by rw [hr]) (by rw [hr]) (by rw [hr]) (by rw [hr]) hW1).mono (IterP.range (a := { a with defers := [] ++ a.defers }) hD hS)
  clear hW1 hr h
  refine ⟨w.heap.size, [], W1, { target := .fn (.func gf) lb, args := #[.func (.yield w.heap.size) #[] #[]] }, W1, gf,
    #[.func (.yield w.heap.size) #[] #[]] ++ lb, W1, he, ?_, ?_, ?_, fun _ => h1, ?_⟩
  · simp only [resolve, hg]
    simp [go_sem]
  · intro f' hf'; simp [Target.leads] at hf'; subst hf'; exact hFg
  · simp [invoke, go_sem, eg]
  · exact hc
end Go.Proofs.Ytehedllcdpjebaa
/- Leaves, as a function: a state that looks and tells move on. Own work. -/
namespace Go.Proofs.Ytehedllcdpjebaa.Lv
open Wk
/-- an entry where it stands: its address, its level, what it says, why not -/
abbrev Slt := Nat × Nat × Ent × Int
/-- how far an entry of a level reaches -/
def rch (lev : Nat) : Nat := if lev = 0 then 1073741824 else if lev = 1 then 2097152 else 4096
structure St (σ : Type) where
  s : σ
  left : Nat
  go : Bool
section
variable {σ : Type} (lk : σ → Nat → Nat → Nat → (Ent × Int) × σ) (yd : σ → Slt → σ) (ct : σ → Slt → Bool)
/-- an entry is come by: a table counts, all else is told -/
def visitS (t : St σ) (x : Slt) : St σ :=
  if x.2.2.1.2.1 then { t with left := t.left - 1, go := decide (1 < t.left) }
  else { s := yd t.s x, left := t.left - 1, go := ct t.s x && decide (1 < t.left) }
/-- the slot of an entry -/
def slotS (virt lev i : Nat) (r : Ent × Int) : Slt := (virt + i * rch lev, lev, r.1, r.2)
/-- the entry i of a table -/
def stepS (deep : Nat → Nat → Nat → St σ → St σ) (fr virt lev i : Nat) (t : St σ) : St σ :=
  if (lk t.s fr i lev).1.2 = 41 then { t with s := (lk t.s fr i lev).2 }
  else if (visitS yd ct { t with s := (lk t.s fr i lev).2 } (slotS virt lev i (lk t.s fr i lev).1)).go && (lk t.s fr i lev).1.1.2.1 then
    deep (lk t.s fr i lev).1.1.1 (virt + i * rch lev) (lev + 1) (visitS yd ct { t with s := (lk t.s fr i lev).2 } (slotS virt lev i (lk t.s fr i lev).1))
  else visitS yd ct { t with s := (lk t.s fr i lev).2 } (slotS virt lev i (lk t.s fr i lev).1)
/-- the first entries of a table -/
def tabN (deep : Nat → Nat → Nat → St σ → St σ) (fr virt lev : Nat) : Nat → St σ → St σ
  | 0, t => t
  | i + 1, t => if (tabN deep fr virt lev i t).go then stepS lk yd ct deep fr virt lev i (tabN deep fr virt lev i t) else tabN deep fr virt lev i t
def deep3 (_ _ _ : Nat) (t : St σ) : St σ := t
def deep2 (fr virt lev : Nat) (t : St σ) : St σ := tabN lk yd ct deep3 fr virt lev 512 t
def deep1 (fr virt lev : Nat) (t : St σ) : St σ := tabN lk yd ct (deep2 lk yd ct) fr virt lev 512 t
def allS (root : Nat) (t : St σ) : St σ := tabN lk yd ct (deep1 lk yd ct) root 0 0 512 t
variable {lk yd ct}
theorem tabN_go {deep : Nat → Nat → Nat → St σ → St σ} {fr virt lev i : Nat} {t : St σ} (h : (tabN lk yd ct deep fr virt lev i t).go = true) : tabN lk yd ct deep fr virt lev (i + 1) t = stepS lk yd ct deep fr virt lev i (tabN lk yd ct deep fr virt lev i t) := by
  rw [tabN, if_pos h]
theorem tabN_stop {deep : Nat → Nat → Nat → St σ → St σ} {fr virt lev i : Nat} {t : St σ} (h : (tabN lk yd ct deep fr virt lev i t).go = false) : ∀ m, tabN lk yd ct deep fr virt lev (i + m) t = tabN lk yd ct deep fr virt lev i t
  | 0 => rfl
  | m + 1 => by
    rw [← Nat.add_assoc, tabN, tabN_stop h m, if_neg (by rw [h]; decide)]
theorem tabN_end {deep : Nat → Nat → Nat → St σ → St σ} {fr virt lev i : Nat} {t : St σ} (h : (tabN lk yd ct deep fr virt lev i t).go = false) (hi : i ≤ 512) : tabN lk yd ct deep fr virt lev 512 t = tabN lk yd ct deep fr virt lev i t := by
  have := tabN_stop h (512 - i)
  rwa [show i + (512 - i) = 512 from by omega] at this
/-- how many looks -/
theorem cnt_visit {cnt : σ → Nat} (hy : ∀ s x, cnt (yd s x) ≤ cnt s) (t : St σ) (x : Slt) : cnt (visitS yd ct t x).s ≤ cnt t.s := by
  unfold visitS
  split
  · exact Nat.le_refl _
  · exact hy _ _
theorem cnt_step {cnt : σ → Nat} (hl : ∀ s a b c, cnt (lk s a b c).2 ≤ cnt s + 1) (hy : ∀ s x, cnt (yd s x) ≤ cnt s) {deep : Nat → Nat → Nat → St σ → St σ} {q : Nat} (hd : ∀ a b c t, cnt (deep a b c t).s ≤ cnt t.s + q) (fr virt lev i : Nat) (t : St σ) : cnt (stepS lk yd ct deep fr virt lev i t).s ≤ cnt t.s + (q + 1) := by
  have h1 := hl t.s fr i lev
  have h2 := cnt_visit (ct := ct) hy { t with s := (lk t.s fr i lev).2 } (slotS virt lev i (lk t.s fr i lev).1)
  have h2' : cnt (visitS yd ct { t with s := (lk t.s fr i lev).2 } (slotS virt lev i (lk t.s fr i lev).1)).s ≤ cnt (lk t.s fr i lev).2 := h2
  unfold stepS
  split
  · show cnt (lk t.s fr i lev).2 ≤ _; omega
  · split
    · have := hd (lk t.s fr i lev).1.1.1 (virt + i * rch lev) (lev + 1) (visitS yd ct { t with s := (lk t.s fr i lev).2 } (slotS virt lev i (lk t.s fr i lev).1))
      omega
    · omega
theorem cnt_tab {cnt : σ → Nat} (hl : ∀ s a b c, cnt (lk s a b c).2 ≤ cnt s + 1) (hy : ∀ s x, cnt (yd s x) ≤ cnt s) {deep : Nat → Nat → Nat → St σ → St σ} {q : Nat} (hd : ∀ a b c t, cnt (deep a b c t).s ≤ cnt t.s + q) (fr virt lev : Nat) (t : St σ) : ∀ i, cnt (tabN lk yd ct deep fr virt lev i t).s ≤ cnt t.s + i * (q + 1)
  | 0 => by simp [tabN]
  | i + 1 => by
    have := cnt_tab hl hy hd fr virt lev t i
    rw [tabN, Nat.succ_mul]
    split
    · have := cnt_step (ct := ct) hl hy hd fr virt lev i (tabN lk yd ct deep fr virt lev i t)
      omega
    · omega
theorem cnt3 {cnt : σ → Nat} (a b c : Nat) (t : St σ) : cnt (deep3 a b c t).s ≤ cnt t.s + 0 := Nat.le_refl _
theorem cnt2 {cnt : σ → Nat} (hl : ∀ s a b c, cnt (lk s a b c).2 ≤ cnt s + 1) (hy : ∀ s x, cnt (yd s x) ≤ cnt s) (a b c : Nat) (t : St σ) : cnt (deep2 lk yd ct a b c t).s ≤ cnt t.s + 512 := cnt_tab (ct := ct) hl hy cnt3 a b c t 512
theorem cnt1 {cnt : σ → Nat} (hl : ∀ s a b c, cnt (lk s a b c).2 ≤ cnt s + 1) (hy : ∀ s x, cnt (yd s x) ≤ cnt s) (a b c : Nat) (t : St σ) : cnt (deep1 lk yd ct a b c t).s ≤ cnt t.s + 262656 := cnt_tab (ct := ct) hl hy (cnt2 (ct := ct) hl hy) a b c t 512
end
end Go.Proofs.Ytehedllcdpjebaa.Lv
/- below's iterator: the entries of a table, whatever a round does. Own work. -/
namespace Go.Proofs.Ytehedllcdpjebaa
open Go.RowKit Go.Shelf Wk Lv
attribute [local go_sem] Oper.semAt_some
/-- a slot's value -/
def SltV (virt : Nat) (lev : Int) (x : Ent) (why : Int) : Value := .agg #[.int .u64 (virt : Int), .int .i64 lev, .int .u64 (x.1 : Int), .bool x.2.1, .bool x.2.2.1, .bool x.2.2.2.1, .bool x.2.2.2.2, .int .i64 why]
/-- a slot in a block -/
def BoxS (w : World) (g virt : Nat) (lev : Int) (x : Ent) (why : Int) : Prop := w.heap[g]? = some (.cells #[.int .u64 (virt : Int), .int .i64 lev, .int .u64 (x.1 : Int), .bool x.2.1, .bool x.2.2.1, .bool x.2.2.2.1, .bool x.2.2.2.2, .int .i64 why] 69 (0, 0))
theorem BoxS.lt {w : World} {g virt : Nat} {lev : Int} {x : Ent} {why : Int} (h : BoxS w g virt lev x why) : g < w.heap.size := (Array.getElem?_eq_some_iff.1 (show w.heap[g]? = _ from h)).1
theorem BoxS.below {w w' : World} {g virt : Nat} {lev : Int} {x : Ent} {why : Int} (h : BoxS w g virt lev x why) (hb : Below w.heap.size w w') : BoxS w' g virt lev x why := (hb.block g h.lt).trans h
theorem BoxS.keeps {Z : Nat → Prop} {w w' : World} {g virt : Nat} {lev : Int} {x : Ent} {why : Int} (h : BoxS w g virt lev x why) (hk : Keeps Z w w') (hn : ¬ Z g) : BoxS w' g virt lev x why := (hk.block g h.lt hn).trans h
theorem BoxS.cells {w : World} {g virt : Nat} {lev : Int} {x : Ent} {why : Int} (h : BoxS w g virt lev x why) : w.cell? ⟨g, 0, none⟩ = some (.int .u64 (virt : Int)) ∧ w.cell? ⟨g, 1, none⟩ = some (.int .i64 lev) ∧ w.cell? ⟨g, 2, none⟩ = some (.int .u64 (x.1 : Int)) ∧ w.cell? ⟨g, 3, none⟩ = some (.bool x.2.1) ∧ w.cell? ⟨g, 4, none⟩ = some (.bool x.2.2.1) ∧ w.cell? ⟨g, 5, none⟩ = some (.bool x.2.2.2.1) ∧ w.cell? ⟨g, 6, none⟩ = some (.bool x.2.2.2.2) ∧ w.cell? ⟨g, 7, none⟩ = some (.int .i64 why) := by
  have h' : w.heap[g]? = _ := h
  simp [World.cell?, h']
theorem BoxS.new (w : World) (virt : Nat) (lev : Int) (x : Ent) (why : Int) : BoxS (w.alloc (.cells #[.int .u64 (virt : Int), .int .i64 lev, .int .u64 (x.1 : Int), .bool x.2.1, .bool x.2.2.1, .bool x.2.2.2.1, .bool x.2.2.2.2, .int .i64 why] 69)) w.heap.size virt lev x why := by
  show (w.heap.push _)[w.heap.size]? = _
  simp
set_option maxRecDepth 100000 in
set_option maxHeartbeats 4000000 in
theorem below1_in (n : Nat) (l Bs Bm : Nat) (virt lev : Nat) (x : Ent) (why : Int) (mv : Value) (hlev : lev ≤ 2) (hv : virt + 512 * rch lev < 18446744073709551616) (ht : x.2.1 = true)
    (J K : Nat → World → Prop) (Jx : World → Prop) (r : Nat → Ent × Int) (b : Nat → Bool)
    (hJb : ∀ i W, J i W → BoxS W Bs virt ((lev : Int) - 1) x why ∧ W.cell? ⟨Bm, 0, none⟩ = some mv) (hKb : ∀ i W, K i W → BoxS W Bs virt ((lev : Int) - 1) x why)
    (hKa : ∀ i W W', K i W → Below W.heap.size W W' → K i W')
    (hre : ∀ W, Calls Try.prog 36 #[.int .i64 (lev : Int)] W fun e w' => e = .returned (.int .u64 (rch lev : Nat)) ∧ Below W.heap.size W w')
    (hlk : ∀ i W, i < 512 → J i W → Calls Try.prog 35 #[mv, .int .u64 (x.1 : Int), .int .u64 (i : Int), .int .i64 (lev : Int)] W fun e w' => e = .returned (.tuple #[EntV (r i).1, .int .i64 (r i).2]) ∧ K i w')
    (hab : ∀ i W, i < 512 → (r i).2 = 41 → K i W → J (i + 1) W)
    (hyd : ∀ i W, i < 512 → (r i).2 ≠ 41 → K i W → YieldAt Fence.wide (n - 1) Try.prog l #[SltV (virt + i * rch lev) (lev : Int) (r i).1 (r i).2] W fun e W' => e = .returned (.bool (b i)) ∧ (b i = true → J (i + 1) W') ∧ (b i = false → Jx W'))
    (W : World) (h0 : J 0 W) :
    CallsIn Fence.wide n Try.prog 34 #[.func (.yield l) #[] #[], .pointer (some ⟨Bs, 0, none⟩), .pointer (some ⟨Bm, 0, none⟩)] W fun e W' => (∃ v, e = .returned v) ∧ (J 512 W' ∨ Jx W') := by
  have HJb : Hid (∀ i W, J i W → BoxS W Bs virt ((lev : Int) - 1) x why ∧ W.cell? ⟨Bm, 0, none⟩ = some mv) := hJb
  have HKb : Hid (∀ i W, K i W → BoxS W Bs virt ((lev : Int) - 1) x why) := hKb
  have HKa : Hid (∀ i W W', K i W → Below W.heap.size W W' → K i W') := hKa
  have HRe : Hid (∀ W, Calls Try.prog 36 #[.int .i64 (lev : Int)] W fun e w' => e = .returned (.int .u64 (rch lev : Nat)) ∧ Below W.heap.size W w') := hre
  have HLk : Hid (∀ i W, i < 512 → J i W → Calls Try.prog 35 #[mv, .int .u64 (x.1 : Int), .int .u64 (i : Int), .int .i64 (lev : Int)] W fun e w' => e = .returned (.tuple #[EntV (r i).1, .int .i64 (r i).2]) ∧ K i w') := hlk
  have HAb : Hid (∀ i W, i < 512 → (r i).2 = 41 → K i W → J (i + 1) W) := hab
  have HYd : Hid (∀ i W, i < 512 → (r i).2 ≠ 41 → K i W → YieldAt Fence.wide (n - 1) Try.prog l #[SltV (virt + i * rch lev) (lev : Int) (r i).1 (r i).2] W fun e W' => e = .returned (.bool (b i)) ∧ (b i = true → J (i + 1) W') ∧ (b i = false → Jx W')) := hyd
  clear hJb hKb hKa hre hlk hab hyd
  have HJ0 : Hid (J 0 W) := h0
  obtain ⟨⟨s0, s1, s2, s3, s4, s5, s6, s7⟩, hm0⟩ := (fun h => (⟨h.1.cells, h.2⟩ : _ ∧ _)) (HJb.out 0 W h0)
  have hmx : Try.prog.follows .mixedOrders = true := by kernel_rfl
  clear h0
  rw [ht] at s3
  refine callsIn_of_wp Try.func34 rfl trivial ?_ rfl
  simp only [Try.ntmps34, List.size_toArray, List.length_cons, List.length_nil, Nat.reduceAdd, Nat.reduceSub, Array.replicate_succ, Array.replicate_zero, List.push_toArray, List.append_toArray, List.nil_append, List.cons_append]
  gi_wp2
  gi_loopw [15] (fun p wr => ∃ k : Nat, k ≤ 512 ∧ p = .int .u64 (k : Int) ∧ Hid (J k wr)) (fun p _ => 512 - (intOf p).toNat)
  case atStart => exact ⟨0, Nat.zero_le _, rfl, HJ0⟩
  case round =>
    obtain ⟨k, hk, rfl, HJ⟩ := hrel
    clear HJ0 s0 s1 s2 s3 s4 s5 s6 s7 hm0
    obtain ⟨⟨s0, s1, s2, s3, s4, s5, s6, s7⟩, hm0⟩ := (fun h => (⟨h.1.cells, h.2⟩ : _ ∧ _)) (HJb.out k wr HJ.out)
    by_cases hlt : k < 512
    · have hlk := HLk.out k wr hlt HJ.out
      have HAk : Hid ((r k).2 = 41 → ∀ W, K k W → J (k + 1) W) := fun e W hK => HAb.out k W hlt e hK
      have HYk : Hid (∀ W, (r k).2 ≠ 41 → K k W → YieldAt Fence.wide (n - 1) Try.prog l #[SltV (virt + k * rch lev) (lev : Int) (r k).1 (r k).2] W fun e W' => e = .returned (.bool (b k)) ∧ (b k = true → J (k + 1) W') ∧ (b k = false → Jx W')) := fun W hn hK => HYd.out k W hlt hn hK
      obtain ⟨bk, hbk⟩ : ∃ bk, bk = b k := ⟨_, rfl⟩
      rw [← hbk] at HYk
      clear hbk
      generalize r k = rk at hlk HAk HYk
      obtain ⟨⟨f0, b1, b2, b3, b4⟩, wy⟩ := rk
      dsimp only [EntV] at hlk
      have HLk' : Hid (Calls Try.prog 35 #[mv, .int .u64 (x.1 : Int), .int .u64 (k : Int), .int .i64 (lev : Int)] wr _) := hlk
      clear hlk HLk HAb HYd
      obtain ⟨q, hq⟩ : ∃ q, q = k * rch lev := ⟨_, rfl⟩
      have hq2 : q ≤ 512 * rch lev := by rw [hq]; exact Nat.mul_le_mul_right _ (by omega)
      have hqi : (k : Int) * (rch lev : Int) = (q : Int) := by rw [hq]; simp
      have hw1 : IntKind.u64.wrap ((k : Int) * (rch lev : Int)) = (q : Int) := by rw [hqi, IntKind.wrap_u64]; omega
      have hw2 : IntKind.u64.wrap ((virt : Int) + (q : Int)) = ((virt + q : Nat) : Int) := by rw [IntKind.wrap_u64]; omega
      rw [← hq] at HYk
      clear hq hqi hq2
      by_cases h41 : wy = 41
      · subst h41
        gi_wp2_with (refine ⟨trivial, fun h => absurd h (by decide), ?_⟩; refine (callsIn_wide.2 HLk'.out).mono ?_; rintro e w1 ⟨rfl, hK1⟩; have HK1 : Hid (K k w1) := hK1; clear hK1 HLk')
        exact ⟨⟨k + 1, by omega, by go_num, HAk.out (by simp) _ (HKa.out _ _ _ HK1.out ((Below.refl _ _).alloc (Nat.le_refl _) _))⟩, by simp [intOf]; omega⟩
      · have h41b : (wy == 41) = false := by simpa using h41
        have h41c : decide (wy = 41) = false := by simpa using h41
        gi_wp2_with (refine ⟨trivial, fun h => absurd h (by decide), ?_⟩; refine (callsIn_wide.2 HLk'.out).mono ?_; rintro e w1 ⟨rfl, hK1⟩; have HK1 : Hid (K k w1) := hK1; clear hK1 HLk')
        clear s0 s1 s2 s3 s4 s5 s6 s7 hm0
        obtain ⟨W2, hW2⟩ : ∃ W2, w1.alloc (Obj.cells #[.int .u64 (f0 : Int), .bool b1, .bool b2, .bool b3, .bool b4] 67) = W2 := ⟨_, rfl⟩
        have HE2 : Hid (BoxE W2 w1.heap.size (f0, b1, b2, b3, b4)) := hW2 ▸ BoxE.new w1 (f0, b1, b2, b3, b4)
        have HK2 : Hid (K k W2) := hW2 ▸ HKa.out _ _ _ HK1.out ((Below.refl _ _).alloc (Nat.le_refl _) _)
        rw [hW2]
        clear hW2
        obtain ⟨s0, s1, s2, s3, s4, s5, s6, s7⟩ := (HKb.out k W2 HK2.out).cells
        obtain ⟨e0, e1, e2, e3, e4⟩ := HE2.out.cells
        dsimp only at e0 e1 e2 e3 e4
        have HY2 : Hid (∀ W, Below W2.heap.size W2 W → YieldAt Fence.wide (n - 1) Try.prog l #[SltV (virt + q) (lev : Int) (f0, b1, b2, b3, b4) wy] W fun e W' => e = .returned (.bool bk) ∧ (bk = true → J (k + 1) W') ∧ (bk = false → Jx W')) := fun W hW => HYk.out W h41 (HKa.out _ _ _ HK2.out hW)
        have HS2 : Hid (∀ W, Below W2.heap.size W2 W → BoxS W Bs virt ((lev : Int) - 1) x why ∧ BoxE W w1.heap.size (f0, b1, b2, b3, b4)) := fun W hW => ⟨(HKb.out k W2 HK2.out).below hW, HE2.out.below hW⟩
        clear HYk HAk HKb HKa HK1 HK2 HJb HJ
        cases bk
        all_goals gi_region_with_o (first
          | (refine ⟨trivial, fun h => absurd h (by decide), ?_⟩; refine (callsIn_wide.2 (HRe.out _)).mono ?_; rintro e w3 ⟨rfl, hb3⟩; have hb3' := (Below.drew (Below.refl _ W2)).trans hb3; obtain ⟨fn, tmps, assign, body, hy, hR⟩ := HY2.out w3 hb3'; obtain ⟨t0, t1, t2, t3, t4, t5, t6, t7⟩ := (HS2.out w3 hb3').1.cells; obtain ⟨d0, d1, d2, d3, d4⟩ := (HS2.out w3 hb3').2.cells; dsimp only [SltV] at hy; rw [Int.natCast_add] at hy; dsimp only at d0 d1 d2 d3 d4; have HR3 := Lib.hid hR; clear hR)
          | (refine ⟨fun h => absurd h (by decide), ?_⟩; refine HR3.out.mono ?_; rintro e W5 ⟨rfl, hJ5, hX5⟩; have HJ5 := Lib.hid hJ5; have HX5 := Lib.hid hX5; clear hJ5 hX5))
        all_goals (
          gi_wp2
          first
            | exact ⟨⟨k + 1, by omega, by go_num, HJ5.out (by simp)⟩, by simp [intOf]; omega⟩
            | (refine bodyPost_ret (results_none rfl _ _ _) rfl ?_
               exact ⟨⟨_, rfl⟩, .inr (HX5.out (by simp))⟩))
    · obtain rfl : k = 512 := by omega
      gi_wp2
      go_end0
      exact ⟨⟨_, rfl⟩, .inl HJ.out⟩
end Go.Proofs.Ytehedllcdpjebaa
/- leaf, below, further: what Leaves calls. Own work. -/
namespace Go.Proofs.Ytehedllcdpjebaa
open Go.RowKit Go.Shelf Wk Lv
attribute [local go_sem] Oper.semAt_some
/-- a leaf's value -/
def LfV (virt phys : Nat) (pages : Nat) (x : Ent) : Value := .agg #[.int .u64 (virt : Int), .int .u64 (phys : Int), .int .i64 (pages : Int), .bool x.2.2.1, .bool x.2.2.2.1, .bool x.2.2.2.2]
/-- a leaf in a block -/
def BoxL (w : World) (g v p : Nat) (n : Int) (b c d : Bool) : Prop := w.heap[g]? = some (.cells #[.int .u64 (v : Int), .int .u64 (p : Int), .int .i64 n, .bool b, .bool c, .bool d] 35 (0, 0))
theorem BoxL.lt {w : World} {g v p : Nat} {n : Int} {b c d : Bool} (h : BoxL w g v p n b c d) : g < w.heap.size := (Array.getElem?_eq_some_iff.1 (show w.heap[g]? = _ from h)).1
theorem BoxL.below {w w' : World} {g v p : Nat} {n : Int} {b c d : Bool} (h : BoxL w g v p n b c d) (hb : Below w.heap.size w w') : BoxL w' g v p n b c d := (hb.block g h.lt).trans h
theorem BoxL.cells {w : World} {g v p : Nat} {n : Int} {b c d : Bool} (h : BoxL w g v p n b c d) : w.cell? ⟨g, 0, none⟩ = some (.int .u64 (v : Int)) ∧ w.cell? ⟨g, 1, none⟩ = some (.int .u64 (p : Int)) ∧ w.cell? ⟨g, 2, none⟩ = some (.int .i64 n) ∧ w.cell? ⟨g, 3, none⟩ = some (.bool b) ∧ w.cell? ⟨g, 4, none⟩ = some (.bool c) ∧ w.cell? ⟨g, 5, none⟩ = some (.bool d) := by
  have h' : w.heap[g]? = _ := h
  simp [World.cell?, h']
theorem BoxL.frozen {w : World} {g v p : Nat} {n : Int} {b c d : Bool} (h : BoxL w g v p n b c d) (i : Nat) : w.frozen? ⟨g, i, none⟩ = false := by
  have h' : w.heap[g]? = _ := h
  simp [World.frozen?, h']
def putL (w : World) (g v p : Nat) (n : Int) (b c d : Bool) : World := (((((w.setCell ⟨g, 0, none⟩ (.int .u64 (v : Int))).setCell ⟨g, 1, none⟩ (.int .u64 (p : Int))).setCell ⟨g, 2, none⟩ (.int .i64 n)).setCell ⟨g, 3, none⟩ (.bool b)).setCell ⟨g, 4, none⟩ (.bool c)).setCell ⟨g, 5, none⟩ (.bool d)
theorem putL_keeps (w : World) (g v p : Nat) (n : Int) (b c d : Bool) : Keeps (fun j => j = g) w (putL w g v p n b c d) :=
  (((((Keeps.setCell w g 0 _).trans (Keeps.setCell _ g 1 _) (fun _ _ e => e)).trans (Keeps.setCell _ g 2 _) (fun _ _ e => e)).trans (Keeps.setCell _ g 3 _) (fun _ _ e => e)).trans (Keeps.setCell _ g 4 _) (fun _ _ e => e)).trans (Keeps.setCell _ g 5 _) (fun _ _ e => e)
theorem BoxL.put {w : World} {g v p : Nat} {n : Int} {b c d : Bool} (h : BoxL w g v p n b c d) (v' p' : Nat) (n' : Int) (b' c' d' : Bool) : BoxL (putL w g v' p' n' b' c' d') g v' p' n' b' c' d' := by
  have h' : w.heap[g]? = _ := h
  simp [BoxL, putL, World.setCell, Array.getElem?_modify, h']
set_option maxRecDepth 100000 in
set_option maxHeartbeats 4000000 in
theorem sleaf_any (virt : Nat) (lev : Int) (pg : Nat) (x : Ent) (why : Int) (w : World)
    (hpg : ∀ W, Calls Try.prog 20 #[.int .i64 lev] W fun e w' => e = .returned (.int .i64 (pg : Int)) ∧ Below W.heap.size W w') :
    Calls Try.prog 22 #[SltV virt lev x why] w fun e w' => e = .returned (LfV virt x.1 pg x) ∧ Below w.heap.size w w' := by
  obtain ⟨f0, b1, b2, b3, b4⟩ := x
  unfold SltV LfV
  dsimp only
  have HPg := Lib.hid hpg
  clear hpg
  go_enter Try.func22, Try.ntmps22
  go_wp2_with fail
  obtain ⟨W2, hW2⟩ : ∃ W2, (w.alloc (Obj.cells #[.int .u64 (virt : Int), .int .i64 lev, .int .u64 (f0 : Int), .bool b1, .bool b2, .bool b3, .bool b4, .int .i64 why] 69)).alloc (Obj.cells #[.int .u64 0, .int .u64 0, .int .i64 0, .bool false, .bool false, .bool false] 35) = W2 := ⟨_, rfl⟩
  have HB2 : Hid (Below w.heap.size w W2) := hW2 ▸ (((Below.refl _ w).alloc (Nat.le_refl _) _).alloc (by simp) _)
  have HS2 : Hid (BoxS W2 w.heap.size virt lev (f0, b1, b2, b3, b4) why) := hW2 ▸ (BoxS.new w virt lev (f0, b1, b2, b3, b4) why).below ((Below.refl _ _).alloc (Nat.le_refl _) _)
  have HL2 : Hid (BoxL W2 (w.heap.size + 1) 0 0 0 false false false) := by
    show BoxL W2 _ _ _ _ _ _ _
    rw [← hW2]
    have := World.alloc_heap_new (w.alloc (Obj.cells #[.int .u64 (virt : Int), .int .i64 lev, .int .u64 (f0 : Int), .bool b1, .bool b2, .bool b3, .bool b4, .int .i64 why] 69)) (Obj.cells #[.int .u64 0, .int .u64 0, .int .i64 0, .bool false, .bool false, .bool false] 35)
    rwa [World.size_alloc] at this
  rw [hW2]
  clear hW2
  obtain ⟨s0, s1, s2, s3, s4, s5, s6, s7⟩ := HS2.out.cells
  dsimp only at s0 s1 s2 s3 s4 s5 s6 s7
  go_region_held3 (fun w' => w'.cell? ⟨w.heap.size, 0, none⟩ = some (.int .u64 (virt : Int)) ∧ w'.cell? ⟨w.heap.size, 1, none⟩ = some (.int .i64 lev) ∧ w'.cell? ⟨w.heap.size, 2, none⟩ = some (.int .u64 (f0 : Int)) ∧ w'.cell? ⟨w.heap.size, 4, none⟩ = some (.bool b2) ∧ w'.cell? ⟨w.heap.size, 5, none⟩ = some (.bool b3) ∧ w'.cell? ⟨w.heap.size, 6, none⟩ = some (.bool b4)) (first | go_keep) (first | (go_at_call 20; refine (HPg.out _).mono ?_; rintro e w3 ⟨rfl, hb3⟩; have HB3 := Lib.hid ((Below.drew (Below.refl _ W2)).trans hb3); clear hb3; obtain ⟨t0, t1, t2, t3, t4, t5, t6, t7⟩ := (HS2.out.below HB3.out).cells; dsimp only at t0 t1 t2 t3 t4 t5 t6 t7; have HL3 := Lib.hid (HL2.out.below HB3.out); obtain ⟨q0, q1, q2, q3, q4, q5⟩ := HL3.out.cells; have g0 := HL3.out.frozen 0; have g1 := HL3.out.frozen 1; have g2 := HL3.out.frozen 2; have g3 := HL3.out.frozen 3; have g4 := HL3.out.frozen 4; have g5 := HL3.out.frozen 5))
  clear s0 s1 s2 s3 s4 s5 s6 s7 t0 t1 t2 t3 t4 t5 t6 t7 q0 q1 q2 q3 q4 q5 g0 g1 g2 g3 g4 g5
  go_wp2_with fail
  obtain ⟨d0, d1, d2, d3, d4, d5⟩ := (HL3.out.put virt f0 (pg : Int) b2 b3 b4).cells
  refine (fun (h : bodyPost _ _ _ _ _ (putL w3 (w.heap.size + 1) virt f0 (pg : Int) b2 b3 b4)) => h) ?_
  refine bodyPost_ret (v := .agg #[.int .u64 (virt : Int), .int .u64 (f0 : Int), .int .i64 (pg : Int), .bool b2, .bool b3, .bool b4]) (by simp [results, Try.results22, go_sem, d0, d1, d2, d3, d4, d5]) rfl ?_
  have hs := HB2.out.size
  have hs3 := HB3.out.size
  exact ⟨rfl, (HB2.out.trans (HB3.out.mono hs)).trans ((putL_keeps w3 (w.heap.size + 1) virt f0 (pg : Int) b2 b3 b4).below (by omega) (fun i _ e => by omega))⟩
theorem sbelow_any (virt : Nat) (lev : Int) (x : Ent) (why : Int) (T : TypeId) (u : Value) (w : World) :
    Calls Try.prog 23 #[SltV virt lev x why, .iface T u] w fun e w' => e = .returned (.func (.func 34) #[] #[.pointer (some ⟨w.heap.size, 0, none⟩), .pointer (some ⟨w.heap.size + 1, 0, none⟩)]) ∧ BoxS w' w.heap.size virt lev x why ∧ w'.cell? ⟨w.heap.size + 1, 0, none⟩ = some (.iface T u) ∧ w'.heap.size = w.heap.size + 2 ∧ Below w.heap.size w w' := by
  obtain ⟨f0, b1, b2, b3, b4⟩ := x
  unfold SltV
  dsimp only
  go_enter Try.func23, Try.ntmps23
  go_wp2
  go_ret
  refine ⟨rfl, (BoxS.new w virt lev (f0, b1, b2, b3, b4) why).below ((Below.refl _ _).alloc (Nat.le_refl _) _), ?_, by simp, ((Below.refl _ w).alloc (Nat.le_refl _) _).alloc (by simp) _⟩
  have := World.alloc_heap_new (w.alloc (Obj.cells #[.int .u64 (virt : Int), .int .i64 lev, .int .u64 (f0 : Int), .bool b1, .bool b2, .bool b3, .bool b4, .int .i64 why] 69)) (Obj.cells #[.iface T u] 54)
  rw [World.size_alloc] at this
  revert this
  generalize World.alloc _ _ = Wn
  intro this
  simp [World.cell?, this]
/-- how many are left -/
def LeftAt (w : World) (g : Nat) (n : Nat) : Prop := w.heap[g]? = some (.cells #[.int .i64 (n : Int)] 3 (0, 0))
theorem LeftAt.lt {w : World} {g n : Nat} (h : LeftAt w g n) : g < w.heap.size := (Array.getElem?_eq_some_iff.1 (show w.heap[g]? = _ from h)).1
theorem LeftAt.keeps {Z : Nat → Prop} {w w' : World} {g n : Nat} (h : LeftAt w g n) (hk : Keeps Z w w') (hn : ¬ Z g) : LeftAt w' g n := (hk.block g h.lt hn).trans h
theorem LeftAt.below {w w' : World} {g n : Nat} (h : LeftAt w g n) (hb : Below w.heap.size w w') : LeftAt w' g n := (hb.block g h.lt).trans h
theorem LeftAt.cell {w : World} {g n : Nat} (h : LeftAt w g n) : w.cell? ⟨g, 0, none⟩ = some (.int .i64 (n : Int)) := by
  have h' : w.heap[g]? = _ := h
  simp [World.cell?, h']
theorem LeftAt.frozen {w : World} {g n : Nat} (h : LeftAt w g n) : w.frozen? ⟨g, 0, none⟩ = false := by
  have h' : w.heap[g]? = _ := h
  simp [World.frozen?, h']
theorem LeftAt.set {w : World} {g n : Nat} (h : LeftAt w g n) (m : Nat) : LeftAt (w.setCell ⟨g, 0, none⟩ (.int .i64 (m : Int))) g m := by
  have h' : w.heap[g]? = _ := h
  simp [LeftAt, World.setCell, Array.getElem?_modify, h']
theorem below_drewNn (w : World) (k : Nat) : Below w.heap.size w (w.drewN k) := ⟨rfl, rfl, rfl, Nat.le_refl _, fun _ _ => rfl⟩
/-- the worlds of further -/
structure Fw (W W2 : World) (Bl virt : Nat) (lev : Int) (x : Ent) (why : Int) (m : Nat) : Prop where
  box : BoxS W2 W.heap.size virt lev x why
  left : LeftAt W2 Bl m
  keeps : Keeps (fun k => k = Bl) W W2
theorem Fw.of {W : World} {Bl left : Nat} (hl : LeftAt W Bl left) (virt : Nat) (lev : Int) (x : Ent) (why : Int) (m : Nat) :
    Fw W ((W.setCell ⟨Bl, 0, none⟩ (.int .i64 (m : Int))).alloc (Obj.cells #[.int .u64 (virt : Int), .int .i64 lev, .int .u64 (x.1 : Int), .bool x.2.1, .bool x.2.2.1, .bool x.2.2.2.1, .bool x.2.2.2.2, .int .i64 why] 69)) Bl virt lev x why m where
  box := by
    have := BoxS.new (W.setCell ⟨Bl, 0, none⟩ (.int .i64 (m : Int))) virt lev x why
    rwa [show (W.setCell ⟨Bl, 0, none⟩ (.int .i64 (m : Int))).heap.size = W.heap.size from by simp] at this
  left := (hl.set m).below ((Below.refl _ _).alloc (Nat.le_refl _) _)
  keeps := (Keeps.setCell W Bl 0 _).trans (Keeps.alloc (S := fun _ => False) _ _) (fun _ _ h => h.elim)
set_option maxRecDepth 100000 in
set_option maxHeartbeats 4000000 in
/-- further, of a table -/
theorem further_table (Bl By : Nat) (virt : Nat) (lev : Int) (x : Ent) (why : Int) (left : Nat) (W : World) (hx : x.2.1 = true) (h1 : 1 ≤ left) (h2 : left ≤ 9223372036854775807) (hl : LeftAt W Bl left) :
    Calls Try.prog 21 #[SltV virt lev x why, .pointer (some ⟨Bl, 0, none⟩), .pointer (some ⟨By, 0, none⟩)] W fun e W' => e = .returned (.bool (decide (1 < left))) ∧ LeftAt W' Bl (left - 1) ∧ Keeps (fun k => k = Bl) W W' := by
  obtain ⟨f0, b1, b2, b3, b4⟩ := x
  dsimp only at hx
  subst hx
  unfold SltV
  dsimp only
  have HL := Lib.hid hl
  have hlt := hl.lt
  have c0 := hl.cell
  have z0 := hl.frozen
  clear hl
  obtain ⟨m, hm⟩ : ∃ m, m = left - 1 := ⟨_, rfl⟩
  have hmi : (left : Int) - 1 = (m : Int) := by omega
  have hw : IntKind.i64.wrap ((left : Int) - 1) = (m : Int) := by rw [hmi, IntKind.wrap_i64]; omega
  have hd : decide (0 < m) = decide (1 < left) := by rw [hm]; congr 1; exact propext ⟨fun h => by omega, fun h => by omega⟩
  rw [← hd, ← hm]
  clear hd hm
  go_enter Try.func21, Try.ntmps21
  go_wp2_with fail
  obtain ⟨W2, hW2⟩ : ∃ W2, (W.setCell ⟨Bl, 0, none⟩ (.int .i64 (m : Int))).alloc (Obj.cells #[.int .u64 (virt : Int), .int .i64 lev, .int .u64 (f0 : Int), .bool true, .bool b2, .bool b3, .bool b4, .int .i64 why] 69) = W2 := ⟨_, rfl⟩
  have HF : Hid (Fw W W2 Bl virt lev (f0, true, b2, b3, b4) why m) := hW2 ▸ Fw.of HL.out virt lev (f0, true, b2, b3, b4) why m
  rw [hW2]
  clear hW2
  clear c0 z0
  obtain ⟨s0, s1, s2, s3, s4, s5, s6, s7⟩ := HF.out.box.cells
  dsimp only at s0 s1 s2 s3 s4 s5 s6 s7
  have c0 := HF.out.left.cell
  go_quiet (fail)
  go_wp2_with fail
  go_ret
  exact ⟨rfl, HF.out.left.below (below_drewNn _ _), HF.out.keeps.trans (Keeps.of_below (S := fun _ => False) (below_drewNn _ _)) (fun _ _ h => h.elim)⟩
end Go.Proofs.Ytehedllcdpjebaa
/- further, of what is told. Own work. -/
namespace Go.Proofs.Ytehedllcdpjebaa
open Go.RowKit Go.Shelf Wk Lv
attribute [local go_sem] Oper.semAt_some
set_option maxRecDepth 100000 in
set_option maxHeartbeats 4000000 in
/-- further, of all else: it is told -/
theorem further_told (n Bl By l : Nat) (virt : Nat) (lev : Int) (x : Ent) (why : Int) (left pg : Nat) (bk : Bool) (R : World → Prop) (W : World) (hx : x.2.1 = false) (h1 : 1 ≤ left) (h2 : left ≤ 9223372036854775807) (hl : LeftAt W Bl left) (hne : By ≠ Bl) (hy : W.cell? ⟨By, 0, none⟩ = some (.func (.yield l) #[] #[]))
    (hpg : ∀ W, Calls Try.prog 20 #[.int .i64 lev] W fun e w' => e = .returned (.int .i64 (pg : Int)) ∧ Below W.heap.size W w')
    (hyd : ∀ W', Keeps (fun k => k = Bl) W W' → LeftAt W' Bl (left - 1) → YieldAt Fence.wide (n - 1) Try.prog l #[LfV virt x.1 pg x, .int .i64 why] W' fun e W'' => e = .returned (.bool bk) ∧ LeftAt W'' Bl (left - 1) ∧ R W'') :
    CallsIn Fence.wide n Try.prog 21 #[SltV virt lev x why, .pointer (some ⟨Bl, 0, none⟩), .pointer (some ⟨By, 0, none⟩)] W fun e W' => e = .returned (.bool (bk && decide (1 < left))) ∧ LeftAt W' Bl (left - 1) ∧ R W' := by
  obtain ⟨f0, b1, b2, b3, b4⟩ := x
  dsimp only at hx
  subst hx
  have HLf : Hid (∀ W', Calls Try.prog 22 #[SltV virt lev (f0, false, b2, b3, b4) why] W' fun e w' => e = .returned (LfV virt f0 pg (f0, false, b2, b3, b4)) ∧ Below W'.heap.size W' w') := fun W' => sleaf_any virt lev pg (f0, false, b2, b3, b4) why W' hpg
  clear hpg
  unfold SltV LfV at HLf
  unfold LfV at hyd
  unfold SltV
  dsimp only at hyd HLf ⊢
  have HYd := Lib.hid hyd
  clear hyd
  have hmx : Try.prog.follows .mixedOrders = true := by kernel_rfl
  have HL := Lib.hid hl
  have hlt := hl.lt
  have c0 := hl.cell
  have z0 := hl.frozen
  clear hl
  obtain ⟨m, hm⟩ : ∃ m, m = left - 1 := ⟨_, rfl⟩
  have hmi : (left : Int) - 1 = (m : Int) := by omega
  have hw : IntKind.i64.wrap ((left : Int) - 1) = (m : Int) := by rw [hmi, IntKind.wrap_i64]; omega
  have hd : decide (0 < m) = decide (1 < left) := by rw [hm]; congr 1; exact propext ⟨fun h => by omega, fun h => by omega⟩
  rw [← hd, ← hm]
  rw [← hm] at HYd
  clear hd hm
  refine callsIn_of_wp Try.func21 rfl trivial ?_ rfl
  simp only [Try.ntmps21, List.size_toArray, List.length_cons, List.length_nil, Nat.reduceAdd, Nat.reduceSub, Array.replicate_succ, Array.replicate_zero, List.push_toArray, List.append_toArray, List.nil_append, List.cons_append]
  gi_wp2
  obtain ⟨W2, hW2⟩ : ∃ W2, (W.setCell ⟨Bl, 0, none⟩ (.int .i64 (m : Int))).alloc (Obj.cells #[.int .u64 (virt : Int), .int .i64 lev, .int .u64 (f0 : Int), .bool false, .bool b2, .bool b3, .bool b4, .int .i64 why] 69) = W2 := ⟨_, rfl⟩
  have HF : Hid (Fw W W2 Bl virt lev (f0, false, b2, b3, b4) why m) := hW2 ▸ Fw.of HL.out virt lev (f0, false, b2, b3, b4) why m
  rw [hW2]
  clear hW2
  clear c0 z0
  have hylt : By < W.heap.size := World.block_lt_of_cell? W _ hy
  have HYc : Hid (∀ W', Keeps (fun k => k = Bl) W W' → W'.cell? ⟨By, 0, none⟩ = some (.func (.yield l) #[] #[])) := fun W' hk => by
    have := hk.block By hylt hne
    unfold World.cell? at hy ⊢
    dsimp only at hy ⊢
    rw [this]
    exact hy
  clear hy
  obtain ⟨s0, s1, s2, s3, s4, s5, s6, s7⟩ := HF.out.box.cells
  dsimp only at s0 s1 s2 s3 s4 s5 s6 s7
  have c0 := HF.out.left.cell
  have y0 := HYc.out W2 HF.out.keeps
  cases bk
  all_goals gi_region_with_o (first
    | (refine ⟨trivial, fun h => absurd h (by decide), ?_⟩; refine (callsIn_wide.2 (HLf.out _)).mono ?_; rintro e w3 ⟨rfl, hb3⟩; have HB3 := Lib.hid ((Below.drew (Below.refl _ W2)).trans hb3); clear hb3; obtain ⟨t0, t1, t2, t3, t4, t5, t6, t7⟩ := (HF.out.box.below HB3.out).cells; dsimp only at t0 t1 t2 t3 t4 t5 t6 t7; have HK3 := Lib.hid (HF.out.keeps.trans (Keeps.of_below (S := fun k => k = Bl) HB3.out) (fun _ _ e => e)); have y3 := HYc.out w3 HK3.out; obtain ⟨fn, tmps, assign, body, hy3, hR3⟩ := HYd.out w3 HK3.out (HF.out.left.below HB3.out); have HR3 := Lib.hid hR3; clear hR3)
    | (refine ⟨fun h => absurd h (by decide), ?_⟩; refine HR3.out.mono ?_; rintro e W5 ⟨rfl, hl5, hJ5⟩; have HJ5 := Lib.hid hJ5; have HL5 := Lib.hid hl5; have c5 := hl5.cell; clear hJ5 hl5))
  all_goals (
    gi_wp2
    go_ret
    exact ⟨by simp [Act.put], HL5.out, HJ5.out⟩)
end Go.Proofs.Ytehedllcdpjebaa
/- A table of Leaves: its entries, round by round. Own work. -/
namespace Go.Proofs.Ytehedllcdpjebaa
open Go.RowKit Go.Shelf Wk Lv
namespace Lv
section
variable {σ : Type} {lk : σ → Nat → Nat → Nat → (Ent × Int) × σ} {yd : σ → Slt → σ} {ct : σ → Slt → Bool}
/-- as many are left as must be, and whoever is told goes on -/
structure Fine (live : σ → Prop) (L : Nat) (t : St σ) : Prop where
  pos : t.go = true → 1 ≤ t.left
  most : t.left ≤ L
  live : t.go = true → live t.s
def aft (yd : σ → Slt → σ) (ct : σ → Slt → Bool) (deep : Nat → Nat → Nat → St σ → St σ) (t : St σ) (y : Slt) : St σ :=
  if (visitS yd ct t y).go && y.2.2.1.2.1 then deep y.2.2.1.1 y.1 (y.2.1 + 1) (visitS yd ct t y) else visitS yd ct t y
theorem step_aft {deep : Nat → Nat → Nat → St σ → St σ} {fr virt lev i : Nat} {t : St σ} (h : (lk t.s fr i lev).1.2 ≠ 41) : stepS lk yd ct deep fr virt lev i t = aft yd ct deep { t with s := (lk t.s fr i lev).2 } (slotS virt lev i (lk t.s fr i lev).1) := by
  rw [stepS, if_neg h]
  rfl
theorem step_absent {deep : Nat → Nat → Nat → St σ → St σ} {fr virt lev i : Nat} {t : St σ} (h : (lk t.s fr i lev).1.2 = 41) : stepS lk yd ct deep fr virt lev i t = { t with s := (lk t.s fr i lev).2 } := by
  rw [stepS, if_pos h]
variable {live : σ → Prop}
/-- what keeps whoever is told going on -/
structure Lives (lk : σ → Nat → Nat → Nat → (Ent × Int) × σ) (yd : σ → Slt → σ) (ct : σ → Slt → Bool) (live : σ → Prop) : Prop where
  ll : ∀ s a b c, live s → live (lk s a b c).2
  ly : ∀ s x, live s → ct s x = true → live (yd s x)
theorem visit_fine (hL : Lives lk yd ct live) {L : Nat} {t : St σ} (hgo : t.go = true) (h : Fine live L t) (y : Slt) : Fine live L (visitS yd ct t y) := by
  unfold visitS
  have := h.most
  split
  · exact ⟨fun e => by have e' := of_decide_eq_true e; show 1 ≤ t.left - 1; omega, by show t.left - 1 ≤ L; omega, fun _ => h.live hgo⟩
  · refine ⟨fun e => ?_, by show t.left - 1 ≤ L; omega, fun e => ?_⟩
    · have e' : (ct t.s y && decide (1 < t.left)) = true := e
      rw [Bool.and_eq_true] at e'
      have := of_decide_eq_true e'.2
      show 1 ≤ t.left - 1
      omega
    · have e' : (ct t.s y && decide (1 < t.left)) = true := e
      rw [Bool.and_eq_true] at e'
      exact hL.ly _ _ (h.live hgo) e'.1
theorem aft_fine (hL : Lives lk yd ct live) {L : Nat} {deep : Nat → Nat → Nat → St σ → St σ} (hd : ∀ a b c t, Fine live L t → Fine live L (deep a b c t)) {t : St σ} (hgo : t.go = true) (h : Fine live L t) (y : Slt) : Fine live L (aft yd ct deep t y) := by
  unfold aft
  split
  · exact hd _ _ _ _ (visit_fine hL hgo h y)
  · exact visit_fine hL hgo h y
theorem tab_fine (hL : Lives lk yd ct live) {L : Nat} {deep : Nat → Nat → Nat → St σ → St σ} (hd : ∀ a b c t, Fine live L t → Fine live L (deep a b c t)) (fr virt lev : Nat) {t : St σ} (h : Fine live L t) : ∀ i, Fine live L (tabN lk yd ct deep fr virt lev i t)
  | 0 => h
  | i + 1 => by
    have hi := tab_fine hL hd fr virt lev h i
    rw [tabN]
    split
    · rename_i hgo
      by_cases h41 : (lk (tabN lk yd ct deep fr virt lev i t).s fr i lev).1.2 = 41
      · rw [step_absent h41]
        exact ⟨hi.pos, hi.most, fun e => hL.ll _ _ _ _ (hi.live e)⟩
      · rw [step_aft h41]
        refine aft_fine hL hd ?_ ?_ _
        · exact hgo
        exact ⟨hi.pos, hi.most, fun e => hL.ll _ _ _ _ (hi.live e)⟩
    · exact hi
theorem fine3 {L : Nat} (a b c : Nat) (t : St σ) (h : Fine live L t) : Fine live L (deep3 a b c t) := h
theorem fine2 (hL : Lives lk yd ct live) {L : Nat} (a b c : Nat) (t : St σ) (h : Fine live L t) : Fine live L (deep2 lk yd ct a b c t) := tab_fine hL fine3 a b c h 512
theorem fine1 (hL : Lives lk yd ct live) {L : Nat} (a b c : Nat) (t : St σ) (h : Fine live L t) : Fine live L (deep1 lk yd ct a b c t) := tab_fine hL (fine2 hL) a b c h 512
end
end Lv
theorem Keeps.putObj (w : World) (l : Nat) (o : Obj) : Keeps (fun k => k = l) w (w.putObj l o) := ⟨rfl, rfl, rfl, by simp, fun k _ hn => World.putObj_heap_other hn⟩
theorem Keeps.back {Y : Nat → Prop} {w v : World} {l : Nat} {o : Obj} (h : Keeps (fun k => Y k ∨ k = l) w v) (hw : w.heap[l]? = some o) : Keeps Y w (v.putObj l o) := by
  have hl : l < w.heap.size := (Array.getElem?_eq_some_iff.1 hw).1
  refine ⟨h.os, h.tape, h.output, by simpa using h.size, fun k hk hn => ?_⟩
  by_cases e : k = l
  · subst e
    rw [World.putObj_heap_same (Nat.lt_of_lt_of_le hl h.size), hw]
  · rw [World.putObj_heap_other e]
    exact h.block k hk (fun hh => hh.elim hn e)
/-- what Leaves asks of a memory and of whoever is told -/
structure LvEnv {σ : Type} (lk : σ → Nat → Nat → Nat → (Ent × Int) × σ) (yd : σ → Slt → σ) (ct : σ → Slt → Bool) (live : σ → Prop) (cnt : σ → Nat) (Q : Nat) (I : σ → World → Prop) (Z : Nat → Prop) (N1 l0 : Nat) (T : TypeId) (u : Value) : Prop where
  lives : Lives lk yd ct live
  abides : ∀ s A B, I s A → Below N1 A B → I s B
  zlt : ∀ k, Z k → k < N1
  look : ∀ s W (fr i lev : Nat), lev ≤ 2 → i < 512 → fr + 4096 ≤ 18446744073709551616 → cnt s < Q → live s → N1 ≤ W.heap.size → I s W → Calls Try.prog 35 #[.iface T u, .int .u64 (fr : Int), .int .u64 (i : Int), .int .i64 (lev : Int)] W fun e w' => e = .returned (.tuple #[EntV (lk s fr i lev).1.1, .int .i64 (lk s fr i lev).1.2]) ∧ I (lk s fr i lev).2 w' ∧ Keeps Z W w'
  frame : ∀ s (fr i lev : Nat), (lk s fr i lev).1.1.1 + 4096 ≤ 18446744073709551616
  tell : ∀ n s W (x : Slt), x.1 < 549755813888 → x.2.1 ≤ 2 → x.2.2.1.1 + 4096 ≤ 18446744073709551616 → live s → N1 ≤ W.heap.size → I s W → YieldAt Fence.wide n Try.prog l0 #[LfV x.1 x.2.2.1.1 (pgs x.2.1) x.2.2.1, .int .i64 x.2.2.2] W fun e W' => e = .returned (.bool (ct s x)) ∧ I (yd s x) W' ∧ Keeps Z W W'
  cl : ∀ s a b c, cnt (lk s a b c).2 ≤ cnt s + 1
  cy : ∀ s x, cnt (yd s x) ≤ cnt s
theorem rch_pgs {lev : Nat} (h : lev ≤ 2) : 4096 * pgs lev = rch lev := by
  rcases (by omega : lev = 0 ∨ lev = 1 ∨ lev = 2) with rfl | rfl | rfl <;> rfl
theorem rch_pos (lev : Nat) : 4096 ≤ rch lev := by
  unfold rch
  split
  · omega
  · split <;> omega
section
variable {σ : Type} {lk : σ → Nat → Nat → Nat → (Ent × Int) × σ} {yd : σ → Slt → σ} {ct : σ → Slt → Bool} {live : σ → Prop} {cnt : σ → Nat} {Q : Nat} {I : σ → World → Prop} {Z : Nat → Prop} {N1 l0 : Nat} {T : TypeId} {u : Value}
/-- where a table's loop has come to its end -/
def LvD (I : σ → World → Prop) (Y : Nat → Prop) (Bl l : Nat) (W1 : World) (t : St σ) (W : World) : Prop := t.go = true ∧ I t.s W ∧ LeftAt W Bl t.left ∧ Keeps (fun k => Y k ∨ k = l) W1 W
/-- where it was left -/
def LvS (I : σ → World → Prop) (Y : Nat → Prop) (l : Nat) (W1 : World) (t : St σ) (c : Code) (W : World) : Prop := c = .ret ∧ t.go = false ∧ I t.s W ∧ Keeps (fun k => Y k ∨ k = l) W1 W
/-- what a round comes to -/
def LvR (I : σ → World → Prop) (Y : Nat → Prop) (Bl l : Nat) (r : Loop) (W1 : World) (t : St σ) (e : Ending) (W : World) : Prop :=
  e = .returned (.bool t.go) ∧ I t.s W ∧ (t.go = true → Keeps Y W1 W ∧ LeftAt W Bl t.left) ∧ (t.go = false → RecAt W l r .done (some .ret) ∧ Keeps (fun k => Y k ∨ k = l) W1 W)
theorem level_any (E : LvEnv lk yd ct live cnt Q I Z N1 l0 T u) {n l Bs Bm Bl : Nat} {r : Loop} {W1 : World} {deep : Nat → Nat → Nat → St σ → St σ} {q L : Nat} (hdc : ∀ a b c t, cnt (deep a b c t).s ≤ cnt t.s + q) (hdf : ∀ a b c t, Fine live L t → Fine live L (deep a b c t))
    {virt lev : Nat} {x : Ent} {why : Int} (hlev : lev ≤ 2) (hx : x.2.1 = true) (hxf : x.1 + 4096 ≤ 18446744073709551616) (hv : virt + 512 * rch lev ≤ 549755813888)
    {t : St σ} (ht : t.go = true) (hf : Fine live L t) (hcnt : cnt t.s + 512 * (q + 1) ≤ Q)
    (hN : N1 ≤ W1.heap.size) (hl : N1 ≤ l) (hlr : RecAt W1 l r .ready none) (hlb : l ≠ Bl) (hBs : BoxS W1 Bs virt ((lev : Int) - 1) x why) (hBsn : N1 ≤ Bs) (hBsl : Bs ≠ Bl) (hBm : W1.cell? ⟨Bm, 0, none⟩ = some (.iface T u)) (hBmn : N1 ≤ Bm) (hBml : Bm ≠ Bl) (hBl : N1 ≤ Bl) (hle : LeftAt W1 Bl t.left) (hI : I t.s W1)
    (hround : ∀ (t' : St σ) (y : Slt) (W : World), t'.go = true → Fine live L t' → y.1 < 549755813888 → y.1 + rch lev ≤ 549755813888 → y.2.1 = lev → y.2.2.1.1 + 4096 ≤ 18446744073709551616 → cnt t'.s + q ≤ Q → Keeps (fun k => Z k ∨ k = Bl) W1 W → LeftAt W Bl t'.left → I t'.s W →
      YieldAt Fence.wide (n - 1) Try.prog l #[SltV y.1 (y.2.1 : Int) y.2.2.1 y.2.2.2] W (LvR I (fun k => Z k ∨ k = Bl) Bl l r W1 (aft yd ct deep t' y))) :
    CallsIn Fence.wide n Try.prog 34 #[.func (.yield l) #[] #[], .pointer (some ⟨Bs, 0, none⟩), .pointer (some ⟨Bm, 0, none⟩)] W1
      (IterP l r (LvD I (fun k => Z k ∨ k = Bl) Bl l W1 (tabN lk yd ct deep x.1 virt lev 512 t)) (LvS I (fun k => Z k ∨ k = Bl) l W1 (tabN lk yd ct deep x.1 virt lev 512 t))) := by
  have hY : ∀ k, N1 ≤ k → k ≠ Bl → ¬ (Z k ∨ k = Bl) := fun k h1 h2 h => h.elim (fun hz => by have := E.zlt k hz; omega) h2
  have hbox : ∀ W, Keeps (fun k => Z k ∨ k = Bl) W1 W → BoxS W Bs virt ((lev : Int) - 1) x why ∧ W.cell? ⟨Bm, 0, none⟩ = some (.iface T u) := fun W hk => by
    refine ⟨hBs.keeps hk (hY _ hBsn hBsl), ?_⟩
    have hb := hk.block Bm (World.block_lt_of_cell? W1 _ hBm) (hY _ hBmn hBml)
    unfold World.cell? at hBm ⊢
    dsimp only at hBm ⊢
    rw [hb]
    exact hBm
  have hrp : 512 * rch lev < 18446744073709551616 := by omega
  refine (below1_in n l Bs Bm virt lev x why (.iface T u) hlev (by omega) hx
    (fun i W => Keeps (fun k => Z k ∨ k = Bl) W1 W ∧ LeftAt W Bl (tabN lk yd ct deep x.1 virt lev i t).left ∧ I (tabN lk yd ct deep x.1 virt lev i t).s W ∧ (tabN lk yd ct deep x.1 virt lev i t).go = true)
    (fun i W => Keeps (fun k => Z k ∨ k = Bl) W1 W ∧ LeftAt W Bl (tabN lk yd ct deep x.1 virt lev i t).left ∧ I (lk (tabN lk yd ct deep x.1 virt lev i t).s x.1 i lev).2 W ∧ (tabN lk yd ct deep x.1 virt lev i t).go = true)
    (fun W => I (tabN lk yd ct deep x.1 virt lev 512 t).s W ∧ (tabN lk yd ct deep x.1 virt lev 512 t).go = false ∧ RecAt W l r .done (some .ret) ∧ Keeps (fun k => (Z k ∨ k = Bl) ∨ k = l) W1 W)
    (fun i => (lk (tabN lk yd ct deep x.1 virt lev i t).s x.1 i lev).1) (fun i => (tabN lk yd ct deep x.1 virt lev (i + 1) t).go)
    (fun i W h => hbox W h.1) (fun i W h => (hbox W h.1).1) ?_ ?_ ?_ ?_ ?_ W1 ⟨Keeps.refl _ _, hle, hI, ht⟩).mono ?_
  · intro i W W' h hb
    exact ⟨h.1.trans (Keeps.of_below (S := fun _ => False) hb) (fun _ _ h => h.elim), h.2.1.below hb, E.abides _ _ _ h.2.2.1 (hb.mono (Nat.le_trans hN h.1.size)), h.2.2.2⟩
  · intro W
    have := reach_any hlev W
    rwa [rch_pgs hlev] at this
  · intro i W hi h
    have hc := cnt_tab (ct := ct) E.cl E.cy hdc x.1 virt lev t i
    have hc2 : i * (q + 1) ≤ 511 * (q + 1) := Nat.mul_le_mul_right _ (by omega)
    refine (E.look _ W x.1 i lev hlev hi hxf (by omega) ((tab_fine (lk := lk) (yd := yd) (ct := ct) E.lives hdf x.1 virt lev hf i).live h.2.2.2) (Nat.le_trans hN h.1.size) h.2.2.1).mono ?_
    rintro e w' ⟨rfl, h1, h2⟩
    exact ⟨rfl, h.1.trans h2 (fun _ _ hz => .inl hz), h.2.1.keeps h2 (fun hz => by have := E.zlt _ hz; omega), h1, h.2.2.2⟩
  · intro i W hi h41 h
    rw [tabN_go h.2.2.2, step_absent h41]
    exact ⟨h.1, h.2.1, h.2.2.1, h.2.2.2⟩
  · intro i W hi h41 h
    have hc := cnt_tab (ct := ct) E.cl E.cy hdc x.1 virt lev t i
    have hc2 : i * (q + 1) ≤ 511 * (q + 1) := Nat.mul_le_mul_right _ (by omega)
    have hc3 := E.cl (tabN lk yd ct deep x.1 virt lev i t).s x.1 i lev
    have hfi := tab_fine (lk := lk) (yd := yd) (ct := ct) E.lives hdf x.1 virt lev hf i
    have hir : i * rch lev + rch lev ≤ 512 * rch lev := by rw [← Nat.succ_mul]; exact Nat.mul_le_mul_right _ hi
    have hr0 := rch_pos lev
    have hs : tabN lk yd ct deep x.1 virt lev (i + 1) t = aft yd ct deep { tabN lk yd ct deep x.1 virt lev i t with s := (lk (tabN lk yd ct deep x.1 virt lev i t).s x.1 i lev).2 } (slotS virt lev i (lk (tabN lk yd ct deep x.1 virt lev i t).s x.1 i lev).1) := by
      rw [tabN_go h.2.2.2, step_aft h41]
    refine (hround { tabN lk yd ct deep x.1 virt lev i t with s := (lk (tabN lk yd ct deep x.1 virt lev i t).s x.1 i lev).2 } (slotS virt lev i (lk (tabN lk yd ct deep x.1 virt lev i t).s x.1 i lev).1) W h.2.2.2 ⟨hfi.pos, hfi.most, fun e => E.lives.ll _ _ _ _ (hfi.live e)⟩ (by show virt + i * rch lev < _; omega) (by show virt + i * rch lev + _ ≤ _; omega) rfl (E.frame _ _ _ _) (by show cnt (lk (tabN lk yd ct deep x.1 virt lev i t).s x.1 i lev).2 + q ≤ Q; omega) h.1 h.2.1 h.2.2.1).mono ?_
    rintro e W' ⟨rfl, h1, h2, h3⟩
    rw [← hs] at h1 h2 h3
    refine ⟨by rw [hs], fun hb => ⟨(h2 hb).1, (h2 hb).2, h1, hb⟩, fun hb => ?_⟩
    have he := tabN_end hb (by omega : i + 1 ≤ 512)
    rw [he]
    exact ⟨h1, hb, h3 hb⟩
  · rintro e W' ⟨he, ⟨h1, h2, h3, h4⟩ | ⟨h1, h2, h3, h4⟩⟩
    · refine ⟨he, .inl ⟨(h1.block l hlr.lt (hY l hl hlb)).trans hlr, h4, E.abides _ _ _ h3 ((Keeps.putObj W' l _).below (Nat.le_trans hN h1.size) (fun i _ e => by omega)), h2.keeps (Keeps.putObj W' l _) (fun e => hlb e.symm), ?_⟩⟩
      exact (h1.mono (fun _ _ h => .inl h)).trans (Keeps.putObj W' l _) (fun _ _ h => .inr h)
    · refine ⟨he, .inr ⟨.ret, h3, rfl, h2, E.abides _ _ _ h1 ((Keeps.putObj W' l _).below (Nat.le_trans hN h4.size) (fun i _ e => by omega)), h4.trans (Keeps.putObj W' l _) (fun _ _ h => .inr h)⟩⟩
end
end Go.Proofs.Ytehedllcdpjebaa
