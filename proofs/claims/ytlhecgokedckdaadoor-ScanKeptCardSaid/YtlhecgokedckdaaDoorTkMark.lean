/- The marks of lexemes; a book of lexemes, as a law sees it (written by parts/gen_tkm.py off BkMark). Own work. -/
import Derived.Test.YtlhecgokedckdaaDoorTkApart
namespace Go.Proofs.YtlhecgokedckdaaDoor
open Go.RowKit Go.Shelf Sc
/-- the mark of the place j of the list i -/
def markT (i j : Nat) : Int × Int := (-1 - (i : Int), (j : Int))
set_option maxRecDepth 100000 in
set_option maxHeartbeats 4000000 in
theorem tokMark_any (i j : Nat) (w : World) (_hi : i ≤ 4000) (_hj : j < maxLen) :
    Calls Tryd.prog 15 #[.int .i64 (i : Int), .int .i64 (j : Int)] w fun e w' => e = .returned (.agg (mkA (markT i j).1 (markT i j).2)) ∧ Keeps (fun _ => False) w w' := by
  have hw1 : IntKind.i64.wrap (-1 - (i : Int)) = -1 - (i : Int) := by rw [IntKind.wrap_i64]; omega
  go_enter Tryd.func15, Tryd.ntmps15
  go_wp2_with fail
  refine bodyPost_ret (v := .agg (mkA (markT i j).1 (markT i j).2)) ?_ rfl ⟨rfl, Keeps.alloc w _⟩
  have hb : (w.alloc (.cells (mkA (-1 - (i : Int)) j) 38)).heap[w.heap.size]? = some (.cells (mkA (-1 - (i : Int)) j) 38 (0, 0)) := Array.getElem?_push_size
  have d0 := cell_of_row _ _ 0 _ _ _ hb
  have d1 := cell_of_row _ _ 1 _ _ _ hb
  have d2 := cell_of_row _ _ 2 _ _ _ hb
  have d3 := cell_of_row _ _ 3 _ _ _ hb
  have d4 := cell_of_row _ _ 4 _ _ _ hb
  simp only [mkA, List.getElem?_toArray, List.getElem?_cons_zero, List.getElem?_cons_succ] at d0 d1 d2 d3 d4
  simp [results, Tryd.results15, go_sem, markT, mkA, d0, d1, d2, d3, d4]
theorem mem_blksT {E : List EntT} {k : Nat} : k ∈ blksT E ↔ ∃ x ∈ E, x.lv.ownBlock = some k ∨ x.wv.ownBlock = some k := by
  simp [blksT, EntT.bl, List.mem_flatMap, Option.mem_toList]
theorem BkT.bw {w : World} {base kb : Nat} {lv wv : Value} {held : Int} {E : List EntT} (h : BkT w base kb lv wv held E) : BwT w base kb lv wv held (E.map EntT.lv) (E.map EntT.wv) := ⟨h.blk, h.lrow, h.wrow, h.ne⟩
theorem blksT_lt {w : World} {base : Nat} {E : List EntT} (he : ∀ x ∈ E, x.ok w base) : ∀ k ∈ blksT E, k < w.heap.size := fun k hk => by
  obtain ⟨x, hx, h | h⟩ := mem_blksT.1 hk
  · exact ((he x hx).l.lt k h).2
  · exact ((he x hx).w.lt k h).2
theorem bkT_new {w : World} {base kb : Nat} (h : w.heap[kb]? = some (.cells #[.slice none 0 0, .slice none 0 0, .int .i64 0, .bool false] 25 (0, 0))) : BkT w base kb (.slice none 0 0) (.slice none 0 0) 0 [] :=
  ⟨h, RowV.nil _ _ _, RowV.nil _ _ _, fun _ e => (by cases e), fun _ h => (by cases h), List.nodup_nil⟩
theorem blksT_append (E F : List EntT) : blksT (E ++ F) = blksT E ++ blksT F := by simp [blksT]
theorem bkT_keep {w : World} {base kb : Nat} {lv wv : Value} {held : Int} {E : List EntT} {la : Option Addr} {ln lc : Nat} {xs : List Tok} (h : BkT w base kb lv wv held E) (hl : OwnT w base (.slice la ln lc) xs) (hxs : xs.length ≤ 1048576) (hsm : xs.length ≤ 1048576) (hlen : E.length ≤ 4000) (hbase : base ≤ w.heap.size) (hf : ∀ k, (Value.slice la ln lc).ownBlock = some k → k ∉ blksT E) :
    Calls Tryd.prog 7 #[.pointer (some ⟨kb, 0, none⟩), .slice la ln lc] w fun e w' => e = .returned (.tuple #[]) ∧ ∃ lv' wv' held' E', BkT w' base kb lv' wv' held' E' ∧ E'.length ≤ 4000 ∧ (∀ k ∈ blksT E', k ∈ blksT E ∨ (Value.slice la ln lc).ownBlock = some k ∨ w.heap.size ≤ k) ∧ KeT base kb w w' := by
  refine (keepT_any h.bw h.ents hl hxs hsm hlen hbase).mono ?_
  rintro e w' ⟨rfl, cv, hcv, E', hk, hl'⟩
  obtain ⟨lv', wv', held', hb⟩ := hk.bw
  have hsub : (blksT E').Sublist (blksT (E ++ [⟨.slice la ln lc, cv, xs⟩])) := by
    obtain ⟨t, ht⟩ := hk.suf
    rw [← ht, blksT_append]
    exact List.sublist_append_right _ _
  have hbl : blksT (E ++ [⟨.slice la ln lc, cv, xs⟩]) = blksT E ++ ((Value.slice la ln lc).ownBlock.toList ++ cv.ownBlock.toList) := by rw [blksT_append]; simp [blksT, EntT.bl]
  have hlt := blksT_lt h.ents
  have hnd : (blksT (E ++ [⟨.slice la ln lc, cv, xs⟩])).Nodup := by
    rw [hbl]
    refine List.nodup_append.2 ⟨h.nodup, List.nodup_append.2 ⟨?_, ?_, fun a ha b hb e => ?_⟩, fun a ha b hb e => ?_⟩
    · cases (Value.slice la ln lc).ownBlock <;> simp
    · cases cv.ownBlock <;> simp
    · subst e
      have h1 := (hl.lt a (by simpa using ha)).2
      have h2 := hcv a (by simpa using hb)
      omega
    · subst e
      rcases List.mem_append.1 hb with hb | hb
      · exact hf a (by simpa using hb) ha
      · have h1 := hlt a ha
        have h2 := hcv a (by simpa using hb)
        omega
  refine ⟨rfl, lv', wv', held', E', ⟨hb.blk, hb.lrow, hb.wrow, hb.ne, hk.ents, hnd.sublist hsub⟩, hl', fun k hk' => ?_, hk.ke⟩
  have := hsub.subset hk'
  rw [hbl] at this
  rcases List.mem_append.1 this with h1 | h1
  · exact .inl h1
  · rcases List.mem_append.1 h1 with h1 | h1
    · exact .inr (.inl (by simpa using h1))
    · exact .inr (.inr (hcv k (by simpa using h1)))
theorem disT_of {E : List EntT} (h : (blksT E).Nodup) : DisT E := by
  intro i i' hi hi' hne g n c g' n' c' e e' hg
  subst hg
  have key : ∀ (E : List EntT), (blksT E).Nodup → ∀ i i' (hi : i < E.length) (hi' : i' < E.length), i < i' → E[i].lv.ownBlock = some g → E[i'].lv.ownBlock = some g → False := by
    intro E
    induction E with
    | nil => intro _ i _ hi; simp at hi
    | cons x xs ih =>
      intro hnd i i' hi hi' hlt h1 h2
      have hc : blksT (x :: xs) = x.bl ++ blksT xs := by simp [blksT]
      rw [hc] at hnd
      obtain ⟨_, n2, n3⟩ := List.nodup_append.1 hnd
      cases i' with
      | zero => omega
      | succ k' =>
        have hk' : k' < xs.length := by simpa using hi'
        simp only [List.getElem_cons_succ] at h2
        cases i with
        | zero =>
          simp only [List.getElem_cons_zero] at h1
          refine n3 g ?_ g ?_ rfl
          · simp [EntT.bl, h1]
          · exact mem_blksT.2 ⟨xs[k'], List.getElem_mem _, .inl h2⟩
        | succ k =>
          simp only [List.getElem_cons_succ] at h1
          exact ih n2 k k' (by simpa using hi) (by simpa using hi') (by omega) h1 h2
  have b1 : E[i].lv.ownBlock = some g := by rw [e]; rfl
  have b2 : E[i'].lv.ownBlock = some g := by rw [e']; rfl
  rcases Nat.lt_or_gt_of_ne hne with hlt | hlt
  · exact key E h i i' hi hi' hlt b1 b2
  · exact key E h i' i hi' hi hlt b2 b1
theorem bkT_apart {w : World} {base kb : Nat} {lv wv : Value} {held : Int} {E : List EntT} (h : BkT w base kb lv wv held E) (hlen : E.length ≤ 4000) :
    Calls Tryd.prog 14 #[.pointer (some ⟨kb, 0, none⟩), .func (.func 15) #[] #[]] w fun e w' => e = .returned (.bool true) ∧ Keeps (fun k => k = kb ∨ ∃ e ∈ E, e.lv.ownBlock = some k) w w' :=
  apartT_any h.bw h.ents hlen (disT_of h.nodup) (enters_of Tryd.func15 (by kernel_rfl) rfl) (fun i j w hi hj => tokMark_any i j w hi hj)
end Go.Proofs.YtlhecgokedckdaaDoor
