/- A scope in which the run jumps to several labels. -/
import Derived.Test.YtlhecgokedckdaaDoorScWord
import Derived.ScopeJumps
import Derived.WalkMore
namespace Go.Proofs.YtlhecgokedckdaaDoor
open Go.RowKit
/-- by a goto: J of its label; else Q -/
def Jumps (J : Nat → Act → World → Prop) (Q : Exit → Act → World → Prop) : Exit → Act → World → Prop
  | .goto l, a, w => J l a w
  | e, a, w => Q e a w
theorem wp_scope_all {P : Program} {a : Act} {w : World} {Q : Exit → Act → World → Prop} {c : Code} (rest : Nat → Code) (J : Nat → Act → World → Prop) (μ : Nat → Act → World → Nat)
    (hf : ∀ l a w, J l a w → findLabel c l = some (rest l)) (first : c.wp P (Jumps J Q) a w)
    (pass : ∀ l a w, J l a w → (rest l).wp P (Jumps (fun l' a' w' => J l' a' w' ∧ μ l' a' w' < μ l a w) Q) a w) : (Code.scope c).wp P Q a w := by
  intro b k cs
  have key : ∀ n l a w, μ l a w = n → J l a w → ∃ e a' w', Q e a' w' ∧ Arrives P (lone (b.at a (.code (rest l) :: .inScope c :: k)) cs w) b k cs e a' w' := by
    intro n
    induction n using Nat.strongRecOn with
    | _ n ih =>
      intro l a w hn hJ
      obtain ⟨e, a₁, w₁, hq, harr⟩ := pass l a w hJ b (.inScope c :: k) cs
      cases e with
      | goto l' =>
        obtain ⟨hJ', hlt⟩ : J l' a₁ w₁ ∧ μ l' a₁ w₁ < μ l a w := hq
        obtain ⟨e₂, a₂, w₂, hq₂, harr₂⟩ := ih _ (by omega) l' a₁ w₁ rfl hJ'
        exact ⟨e₂, a₂, w₂, hq₂, .of_steps (harr _ (by simp [gotoIn, hf l' _ _ hJ'])) harr₂⟩
      | normal => exact ⟨.normal, a₁, w₁, hq, Steps.trans harr (.one step_inScope)⟩
      | exit id => exact ⟨.exit id, a₁, w₁, hq, fun k' hk => harr k' (by simp [exitTo, hk])⟩
      | ret => exact ⟨_, a₁, w₁, hq, harr⟩
      | panic ch => exact ⟨_, a₁, w₁, hq, harr⟩
      | outgrown => exact ⟨_, a₁, w₁, hq, harr⟩
  obtain ⟨e, a₁, w₁, hq, harr⟩ := first b (.inScope c :: k) cs
  cases e with
  | goto l' =>
    have hJ' : J l' a₁ w₁ := hq
    obtain ⟨e₂, a₂, w₂, hq₂, harr₂⟩ := key _ l' a₁ w₁ rfl hJ'
    exact ⟨e₂, a₂, w₂, hq₂, .of_steps (.head step_scope (harr _ (by simp [gotoIn, hf l' _ _ hJ']))) harr₂⟩
  | normal => exact ⟨.normal, a₁, w₁, hq, .head step_scope (Steps.trans harr (.one step_inScope))⟩
  | exit id => exact ⟨.exit id, a₁, w₁, hq, fun k' hk => .head step_scope (harr k' (by simp [exitTo, hk]))⟩
  | ret => exact ⟨_, a₁, w₁, hq, .of_steps (.one step_scope) harr⟩
  | panic ch => exact ⟨_, a₁, w₁, hq, .of_steps (.one step_scope) harr⟩
  | outgrown => exact ⟨_, a₁, w₁, hq, .of_steps (.one step_scope) harr⟩
theorem wp_scope_lab {P : Program} {a : Act} {w : World} {Q : Exit → Act → World → Prop} {c : Code} (J : Nat → Act → World → Prop) (μ : Nat → Act → World → Nat)
    (hf : ∀ l a w, J l a w → (findLabel c l).isSome = true) (first : c.wp P (Jumps J Q) a w)
    (pass : ∀ l a w, J l a w → ((findLabel c l).getD .skip).wp P (Jumps (fun l' a' w' => J l' a' w' ∧ μ l' a' w' < μ l a w) Q) a w) : (Code.scope c).wp P Q a w :=
  wp_scope_all (fun l => (findLabel c l).getD .skip) J μ (fun l a w h => by obtain ⟨r, e⟩ := Option.isSome_iff_exists.1 (hf l a w h); rw [e]; rfl) first pass
theorem Jumps.mono {J J' : Nat → Act → World → Prop} {Q : Exit → Act → World → Prop} (h : ∀ l a w, J l a w → J' l a w) : ∀ e a w, Jumps J Q e a w → Jumps J' Q e a w := by
  intro e a w q
  cases e with
  | goto l => exact h l a w q
  | normal => exact q
  | exit id => exact q
  | ret => exact q
  | panic ch => exact q
  | outgrown => exact q
/-- what stands behind a label does what is asked -/
def From (P : Program) (c : Code) (l : Nat) (Q : Exit → Act → World → Prop) (a : Act) (w : World) : Prop := ∃ r, findLabel c l = some (.seq .skip r) ∧ r.wp P Q a w
theorem From.code {P : Program} {c r : Code} {l : Nat} {Q : Exit → Act → World → Prop} {a : Act} {w : World} (h : From P c l Q a w) (hf : findLabel c l = some (.seq .skip r)) : r.wp P Q a w := by
  obtain ⟨r', h1, h2⟩ := h
  rw [hf] at h1
  cases h1
  exact h2
/-- a scope; the first pass may fall into a label -/
theorem wp_scope_fall {P : Program} {a : Act} {w : World} {Q : Exit → Act → World → Prop} {c : Code} (J : Nat → Act → World → Prop) (μ : Nat → Act → World → Nat)
    (pass : ∀ l a w, J l a w → From P c l (Jumps (fun l' a' w' => J l' a' w' ∧ μ l' a' w' < μ l a w) Q) a w)
    (first : (∀ l a w, J l a w → From P c l (Jumps J Q) a w) → c.wp P (Jumps J Q) a w) : (Code.scope c).wp P Q a w := by
  refine wp_scope_lab J μ (fun l a w h => ?_) (first fun l a w h => ?_) (fun l a w h => ?_)
  · obtain ⟨r, h1, _⟩ := pass l a w h
    rw [h1]; rfl
  · obtain ⟨r, h1, h2⟩ := pass l a w h
    exact ⟨r, h1, wp_mono h2 (Jumps.mono fun _ _ _ q => q.1)⟩
  · obtain ⟨r, h1, h2⟩ := pass l a w h
    rw [h1]
    exact wp_seq (wp_skip h2)
theorem Jumps_ret {J : Nat → Act → World → Prop} {Q : Exit → Act → World → Prop} {a : Act} {w : World} : Jumps J Q .ret a w = Q .ret a w := rfl
theorem Jumps_goto {J : Nat → Act → World → Prop} {Q : Exit → Act → World → Prop} {a : Act} {w : World} {l : Nat} : Jumps J Q (.goto l) a w = J l a w := rfl
end Go.Proofs.YtlhecgokedckdaaDoor
