/- layWithin: bytes laid into one page. Own work. -/
import Derived.Test.YtmaahompmgmkfaaBPages
namespace Go.Proofs.Ytmaahompmgmkfaa
open Go.RowKit Go.Maps
/-- a page that lies at g is written: what is held behind it -/
theorem Held.wrote {w w' : World} {B : Nat} {T : Nat → Option Nat} {M : Nat → Nat} {k o g : Nat} {zs : List Nat} (h : Held w B T M) (hk : T k = some g) (hz : ∀ z ∈ zs, z < 256) (hl : o + zs.length ≤ 4096)
    (hg : Pg w' g ((pageOf M k).take o ++ zs ++ (pageOf M k).drop (o + zs.length))) (hK : Keeps (fun j => j = g) w w') (hn : ¬ isZ (putAt M (k * 4096 + o) zs) k) : Held w' B T (putAt M (k * 4096 + o) zs) := by
  obtain ⟨p1, p2, p3, p4, p5⟩ := h.2
  have hz1 : nz M k = true := nz_true (p1 k g hk).2
  have hz2 : nz (putAt M (k * 4096 + o) zs) k = true := nz_true hn
  have hc : cnt (putAt M (k * 4096 + o) zs) = cnt M := by
    have := cnt_one (M := M) (M' := putAt M (k * 4096 + o) zs) (h.low hk) (fun j hj => by unfold nz; rw [page_put_other M hl hj])
    rw [hz1, hz2] at this
    omega
  refine ⟨by rw [hc]; exact h.1.keeps hK (fun e => h.apart hk e.symm), fun k' g' e => ?_, fun k' e => ?_, p3, putAt_small p4 hz, p5⟩
  · by_cases hk' : k' = k
    · subst hk'
      rw [hk] at e
      cases e
      rw [page_put_same M k' o zs hl] at hg
      exact ⟨hg, hn⟩
    · rw [page_put_other M hl hk']
      refine ⟨((p1 k' g' e).1).keeps hK (fun e' => hk' (p3 k' k g' e (by rw [hk, e']))), fun hz' => (p1 k' g' e).2 (isZ_congr (fun i hi => (put_other M hl hk' i hi).symm) hz')⟩
  · exact isZ_congr (put_other M hl (fun e' => by rw [e', hk] at e; cases e)) (p2 k' e)
/-- a new page is put in -/
theorem Held.fresh {w w' : World} {B : Nat} {T : Nat → Option Nat} {M : Nat → Nat} {k o g : Nat} {zs : List Nat} (h : Held w B T M) (hk : T k = none) (hkn : k < pagesN) (hz : ∀ z ∈ zs, z < 256) (hl : o + zs.length ≤ 4096) (hgn : w.heap.size ≤ g)
    (hm : MapT w' B (upd T k (some g)) (cnt M + 1)) (hg : Pg w' g ((pageOf M k).take o ++ zs ++ (pageOf M k).drop (o + zs.length))) (hK : Keeps (fun j => j = B) w w') (hn : ¬ isZ (putAt M (k * 4096 + o) zs) k) : Held w' B (upd T k (some g)) (putAt M (k * 4096 + o) zs) := by
  obtain ⟨p1, p2, p3, p4, p5⟩ := h.2
  have hz1 : nz M k = false := nz_false.2 (p2 k hk)
  have hz2 : nz (putAt M (k * 4096 + o) zs) k = true := nz_true hn
  have hc : cnt (putAt M (k * 4096 + o) zs) = cnt M + 1 := by
    have := cnt_one (M := M) (M' := putAt M (k * 4096 + o) zs) hkn (fun j hj => by unfold nz; rw [page_put_other M hl hj])
    rw [hz1, hz2] at this
    simpa using this
  have hnew : ∀ k' g', T k' = some g' → g' ≠ g := fun k' g' e e' => by
    have := ((p1 k' g' e).1).lt
    omega
  refine ⟨by rw [hc]; exact hm, fun k' g' e => ?_, fun k' e => ?_, fun k1 k2 g' e1 e2 => ?_, putAt_small p4 hz, fun k' hk' => ?_⟩
  · by_cases hk' : k' = k
    · subst hk'
      rw [upd_same] at e
      cases e
      rw [page_put_same M k' o zs hl] at hg
      exact ⟨hg, hn⟩
    · rw [upd_other _ _ hk'] at e
      rw [page_put_other M hl hk']
      exact ⟨((p1 k' g' e).1).keeps hK (h.apart e), fun hz' => (p1 k' g' e).2 (isZ_congr (fun i hi => (put_other M hl hk' i hi).symm) hz')⟩
  · by_cases hk' : k' = k
    · subst hk'
      rw [upd_same] at e
      cases e
    · rw [upd_other _ _ hk'] at e
      exact isZ_congr (put_other M hl hk') (p2 k' e)
  · by_cases h1 : k1 = k
    · by_cases h2 : k2 = k
      · rw [h1, h2]
      · subst h1
        rw [upd_same] at e1
        rw [upd_other _ _ h2] at e2
        cases e1
        exact absurd rfl (hnew _ _ e2)
    · by_cases h2 : k2 = k
      · subst h2
        rw [upd_same] at e2
        rw [upd_other _ _ h1] at e1
        cases e2
        exact absurd rfl (hnew _ _ e1)
      · rw [upd_other _ _ h1] at e1
        rw [upd_other _ _ h2] at e2
        exact p3 k1 k2 g' e1 e2
  · rw [upd_other _ _ (by omega)]
    exact p5 k' hk'
theorem not_isZ_put {M : Nat → Nat} {k o : Nat} {zs : List Nat} (hl : o + zs.length ≤ 4096) (hz : allZ zs = false) : ¬ isZ (putAt M (k * 4096 + o) zs) k := fun h => by
  obtain ⟨z, hz1, hz2⟩ := List.all_eq_false.1 hz
  obtain ⟨i, hi, rfl⟩ := List.getElem_of_mem hz1
  have := h (o + i) (by omega)
  rw [← Nat.add_assoc, putAt_in M (k * 4096 + o) zs i hi, List.getD_eq_getElem?_getD, List.getElem?_eq_getElem hi] at this
  exact hz2 (by simpa using this)
def LaidPost (w : World) (B : Nat) (T : Nat → Option Nat) (M : Nat → Nat) (e : Ending) (w' : World) : Prop := e = .returned (.tuple #[]) ∧ ∃ T', Held w' B T' M ∧ Keeps (Foot B T) w w' ∧ Grows w.heap.size T T'
theorem page_zero {M : Nat → Nat} {k : Nat} (h : isZ M k) : zeros4 = pageOf M k := page_ext List.length_replicate fun i hi => by rw [zeros4, List.getElem?_replicate, if_pos hi, h i hi]
theorem new_pg {w w1 w2 : World} {B : Nat} {L : List Nat} (hp : zeros4 = L) (h1 : w1 = w.alloc (.cells (bvs zeros4).toArray 158)) (h2 : Keeps (fun j => j = B) w1 w2) (hB : B < w.heap.size) : Pg w2 w.heap.size L := by
  subst h1
  refine (show Pg (w.alloc (.cells (bvs zeros4).toArray 158)) w.heap.size L from ?_).keeps h2 (by omega)
  rw [← hp]
  exact heap_alloc_new w _
theorem new_sl {w w1 w2 : World} {B b o n c : Nat} {zs : List Nat} {O : Obj} (hs : Sl w (.slice (some ⟨b, o, none⟩) n c) zs) (h1 : w1 = w.alloc O) (h2 : Keeps (fun j => j = B) w1 w2) (hB : b ≠ B) : Sl w2 (.slice (some ⟨b, o, none⟩) n c) zs := by
  subst h1
  exact (hs.below ((Below.refl _ _).alloc (Nat.le_refl _) _)).keeps h2 (fun k e => by cases e; exact hB)
end Go.Proofs.Ytmaahompmgmkfaa
