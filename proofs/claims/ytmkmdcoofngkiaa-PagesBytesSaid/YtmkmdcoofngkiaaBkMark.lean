/- The marks of bytes; a book of bytes, as a law sees it. Own work. -/
import Derived.Test.YtmkmdcoofngkiaaBkApart
namespace Go.Proofs.Ytmkmdcoofngkiaa
open Go.RowKit Go.Shelf
/-- the mark of the place j of the list i -/
def markB (i j : Nat) : Int := ((i : Int) + 1) / 2 ^ (8 * (j % 3)) % 256
set_option maxRecDepth 100000 in
set_option maxHeartbeats 4000000 in
theorem bytesMark_any (i j : Nat) (w : World) (_hi : i ≤ 4000) (_hj : j < maxLen) :
    Calls Try.prog 25 #[.int .i64 (i : Int), .int .i64 (j : Int)] w fun e w' => e = .returned (.int .u8 (markB i j)) ∧ w' = w := by
  go_enter Try.func25, Try.ntmps25
  go_wp2_with fail
  go_ret
  exact ⟨rfl, rfl⟩
theorem mem_blks {E : List Ent} {k : Nat} : k ∈ blks E ↔ ∃ x ∈ E, x.lv.ownBlock = some k ∨ x.wv.ownBlock = some k := by
  simp [blks, Ent.bl, List.mem_flatMap, Option.mem_toList]
theorem Bk.bw {w : World} {base kb : Nat} {lv wv : Value} {held : Int} {E : List Ent} (h : Bk w base kb lv wv held E) : Bw w base kb lv wv held (E.map Ent.lv) (E.map Ent.wv) := ⟨h.blk, h.lrow, h.wrow, h.ne⟩
theorem blks_lt {w : World} {base : Nat} {E : List Ent} (he : ∀ x ∈ E, x.ok w base) : ∀ k ∈ blks E, k < w.heap.size := fun k hk => by
  obtain ⟨x, hx, h | h⟩ := mem_blks.1 hk
  · exact ((he x hx).l.lt k h).2
  · exact ((he x hx).w.lt k h).2
theorem bk_new {w : World} {base kb : Nat} (h : w.heap[kb]? = some (.cells #[.slice none 0 0, .slice none 0 0, .int .i64 0, .bool false] 57 (0, 0))) : Bk w base kb (.slice none 0 0) (.slice none 0 0) 0 [] :=
  ⟨h, RowV.nil _ _ _, RowV.nil _ _ _, fun _ e => (by cases e), fun _ h => (by cases h), List.nodup_nil⟩
theorem blks_append (E F : List Ent) : blks (E ++ F) = blks E ++ blks F := by simp [blks]
theorem bk_keep {w : World} {base kb : Nat} {lv wv : Value} {held : Int} {E : List Ent} {la : Option Addr} {ln lc : Nat} {xs : List Nat} (h : Bk w base kb lv wv held E) (hl : Own w base (.slice la ln lc) xs) (hxs : xs.length ≤ 140737488351232) (hsm : ∀ z ∈ xs, z < 256) (hlen : E.length ≤ 4000) (hbase : base ≤ w.heap.size) (hf : ∀ k, (Value.slice la ln lc).ownBlock = some k → k ∉ blks E) :
    Calls Try.prog 20 #[.pointer (some ⟨kb, 0, none⟩), .slice la ln lc] w fun e w' => e = .returned (.tuple #[]) ∧ ∃ lv' wv' held' E', Bk w' base kb lv' wv' held' E' ∧ E'.length ≤ 4000 ∧ (∀ k ∈ blks E', k ∈ blks E ∨ (Value.slice la ln lc).ownBlock = some k ∨ w.heap.size ≤ k) ∧ Ke base kb w w' := by
  refine (keepB_any h.bw h.ents hl hxs hsm hlen hbase).mono ?_
  rintro e w' ⟨rfl, cv, hcv, E', hk, hl'⟩
  obtain ⟨lv', wv', held', hb⟩ := hk.bw
  have hsub : (blks E').Sublist (blks (E ++ [⟨.slice la ln lc, cv, xs⟩])) := by
    obtain ⟨t, ht⟩ := hk.suf
    rw [← ht, blks_append]
    exact List.sublist_append_right _ _
  have hbl : blks (E ++ [⟨.slice la ln lc, cv, xs⟩]) = blks E ++ ((Value.slice la ln lc).ownBlock.toList ++ cv.ownBlock.toList) := by rw [blks_append]; simp [blks, Ent.bl]
  have hlt := blks_lt h.ents
  have hnd : (blks (E ++ [⟨.slice la ln lc, cv, xs⟩])).Nodup := by
    rw [hbl]
    refine List.nodup_append.2 ⟨h.nodup, List.nodup_append.2 ⟨?_, ?_, fun a ha b hb e => ?_⟩, fun a ha b hb e => ?_⟩
    · cases (Value.slice la ln lc).ownBlock <;> simp
    · cases cv.ownBlock <;> simp
    · subst e
      have h1 := (hl.lt a (by simpa using ha)).2
      have h2 := hcv a (by simpa using hb)
      omega
    · subst e
      rcases List.mem_append.1 hb with hb | hb
      · exact hf a (by simpa using hb) ha
      · have h1 := hlt a ha
        have h2 := hcv a (by simpa using hb)
        omega
  refine ⟨rfl, lv', wv', held', E', ⟨hb.blk, hb.lrow, hb.wrow, hb.ne, hk.ents, hnd.sublist hsub⟩, hl', fun k hk' => ?_, hk.ke⟩
  have := hsub.subset hk'
  rw [hbl] at this
  rcases List.mem_append.1 this with h1 | h1
  · exact .inl h1
  · rcases List.mem_append.1 h1 with h1 | h1
    · exact .inr (.inl (by simpa using h1))
    · exact .inr (.inr (hcv k (by simpa using h1)))
theorem dis_of {E : List Ent} (h : (blks E).Nodup) : Dis E := by
  intro i i' hi hi' hne g n c g' n' c' e e' hg
  subst hg
  have key : ∀ (E : List Ent), (blks E).Nodup → ∀ i i' (hi : i < E.length) (hi' : i' < E.length), i < i' → E[i].lv.ownBlock = some g → E[i'].lv.ownBlock = some g → False := by
    intro E
    induction E with
    | nil => intro _ i _ hi; simp at hi
    | cons x xs ih =>
      intro hnd i i' hi hi' hlt h1 h2
      have hc : blks (x :: xs) = x.bl ++ blks xs := by simp [blks]
      rw [hc] at hnd
      obtain ⟨_, n2, n3⟩ := List.nodup_append.1 hnd
      cases i' with
      | zero => omega
      | succ k' =>
        have hk' : k' < xs.length := by simpa using hi'
        simp only [List.getElem_cons_succ] at h2
        cases i with
        | zero =>
          simp only [List.getElem_cons_zero] at h1
          refine n3 g ?_ g ?_ rfl
          · simp [Ent.bl, h1]
          · exact mem_blks.2 ⟨xs[k'], List.getElem_mem _, .inl h2⟩
        | succ k =>
          simp only [List.getElem_cons_succ] at h1
          exact ih n2 k k' (by simpa using hi) (by simpa using hi') (by omega) h1 h2
  have b1 : E[i].lv.ownBlock = some g := by rw [e]; rfl
  have b2 : E[i'].lv.ownBlock = some g := by rw [e']; rfl
  rcases Nat.lt_or_gt_of_ne hne with hlt | hlt
  · exact key E h i i' hi hi' hlt b1 b2
  · exact key E h i' i hi' hi hlt b2 b1
theorem bk_apart {w : World} {base kb : Nat} {lv wv : Value} {held : Int} {E : List Ent} (h : Bk w base kb lv wv held E) (hlen : E.length ≤ 4000) :
    Calls Try.prog 24 #[.pointer (some ⟨kb, 0, none⟩), .func (.func 25) #[] #[]] w fun e w' => e = .returned (.bool true) ∧ Keeps (fun k => k = kb ∨ ∃ e ∈ E, e.lv.ownBlock = some k) w w' :=
  apartB_any h.bw h.ents hlen (dis_of h.nodup) (enters_of Try.func25 (by kernel_rfl) rfl) (fun i j w hi hj => bytesMark_any i j w hi hj)
end Go.Proofs.Ytmkmdcoofngkiaa
