/- layWithin: zeros laid into one page. Own work. -/
import Derived.Test.YtmaahompmgmkfaaBLay
import Derived.Test.YtmaahompmgmkfaaBEq
namespace Go.Proofs.Ytmaahompmgmkfaa
open Go.RowKit Go.Maps
theorem allZ_get {zs : List Nat} (h : allZ zs = true) (i : Nat) : zs.getD i 0 = 0 := by
  by_cases hi : i < zs.length
  · have := List.all_eq_true.1 h _ (List.getElem_mem hi)
    rw [List.getD_eq_getElem?_getD, List.getElem?_eq_getElem hi]
    simpa using this
  · rw [List.getD_eq_getElem?_getD, List.getElem?_eq_none (by omega)]; rfl
theorem put_zero {M : Nat → Nat} {k r : Nat} {zs : List Nat} (hl : r + zs.length ≤ 4096) (hz : allZ zs = true) (h : isZ M k) : putAt M (k * 4096 + r) zs = M := by
  funext p
  by_cases hp : k * 4096 + r ≤ p ∧ p < k * 4096 + r + zs.length
  · rw [show putAt M (k * 4096 + r) zs p = zs.getD (p - (k * 4096 + r)) 0 from if_pos hp, allZ_get hz]
    have := h (p - k * 4096) (by omega)
    rw [show k * 4096 + (p - k * 4096) = p by omega] at this
    exact this.symm
  · exact if_neg hp
/-- a page that has become all 0 is taken out -/
theorem Held.dropped {w w' : World} {B : Nat} {T : Nat → Option Nat} {M : Nat → Nat} {k o g : Nat} {zs : List Nat} (h : Held w B T M) (hk : T k = some g) (hz : ∀ z ∈ zs, z < 256) (hl : o + zs.length ≤ 4096) {c : Nat} (hcc : cnt M = c + 1)
    (hm : MapT w' B (upd T k none) c) (hK : Keeps (fun j => j = g ∨ j = B) w w') (hn : isZ (putAt M (k * 4096 + o) zs) k) : Held w' B (upd T k none) (putAt M (k * 4096 + o) zs) := by
  obtain ⟨p1, p2, p3, p4, p5⟩ := h.2
  have hz1 : nz M k = true := nz_true (p1 k g hk).2
  have hz2 : nz (putAt M (k * 4096 + o) zs) k = false := nz_false.2 hn
  have hc : cnt (putAt M (k * 4096 + o) zs) = c := by
    have := cnt_one (M := M) (M' := putAt M (k * 4096 + o) zs) (h.low hk) (fun j hj => by unfold nz; rw [page_put_other M hl hj])
    rw [hz1, hz2, hcc] at this
    simpa using this
  refine ⟨by rw [hc]; exact hm, fun k' g' e => ?_, fun k' e => ?_, fun k1 k2 g' e1 e2 => ?_, putAt_small p4 hz, fun k' hk' => ?_⟩
  · by_cases hk' : k' = k
    · subst hk'
      rw [upd_same] at e
      cases e
    · rw [upd_other _ _ hk'] at e
      rw [page_put_other M hl hk']
      exact ⟨((p1 k' g' e).1).keeps hK (fun e' => e'.elim (fun e' => hk' (p3 k' k g' e (by rw [hk, e']))) (h.apart e)), fun hz' => (p1 k' g' e).2 (isZ_congr (fun i hi => (put_other M hl hk' i hi).symm) hz')⟩
  · by_cases hk' : k' = k
    · subst hk'
      exact hn
    · rw [upd_other _ _ hk'] at e
      exact isZ_congr (put_other M hl hk') (p2 k' e)
  · have h1 : k1 ≠ k := fun e => by rw [e, upd_same] at e1; cases e1
    have h2 : k2 ≠ k := fun e => by rw [e, upd_same] at e2; cases e2
    rw [upd_other _ _ h1] at e1
    rw [upd_other _ _ h2] at e2
    exact p3 k1 k2 g' e1 e2
  · by_cases h1 : k' = k
    · rw [h1, upd_same]
    · rw [upd_other _ _ h1]
      exact p5 k' hk'
theorem page_is_zero {M : Nat → Nat} {k : Nat} : (pageOf M k == zeros4) = !nz M k := by
  cases e : nz M k with
  | false =>
    rw [← page_zero (nz_false.1 e)]
    simp
  | true =>
    have : pageOf M k ≠ zeros4 := fun h => by
      have h2 : isZ M k := fun i hi => by
        have := pageOf_get M k i hi
        rw [h, zeros4, List.getElem?_replicate, if_pos hi] at this
        exact (Option.some.inj this).symm
      rw [nz_false.2 h2] at e
      cases e
    simpa using this
end Go.Proofs.Ytmaahompmgmkfaa
