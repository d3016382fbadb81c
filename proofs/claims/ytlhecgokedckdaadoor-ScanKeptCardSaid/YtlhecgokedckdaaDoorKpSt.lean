/- ScanKept: what stands between two rounds. Own work. -/
import Derived.Test.YtlhecgokedckdaaDoorBkMark
import Derived.Test.YtlhecgokedckdaaDoorTkMark
import Derived.Laws.CopyOwn
namespace Go.Proofs.YtlhecgokedckdaaDoor
open Go.RowKit Go.Shelf Sc
theorem Ent.ok.keeps {S : Nat → Prop} {w w' : World} {base : Nat} {x : Ent} (h : x.ok w base) (hk : Keeps S w w') (hn : ∀ k ∈ x.bl, ¬ S k) : x.ok w' base :=
  ⟨h.l.keeps hk (fun k e => hn k (by simp [Ent.bl, e])), h.w.keeps hk (fun k e => hn k (by simp [Ent.bl, e])), h.sm⟩
theorem Bk.keeps {S : Nat → Prop} {w w' : World} {base kb : Nat} {lv wv : Value} {held : Int} {E : List Ent} (h : Bk w base kb lv wv held E) (hk : Keeps S w w') (h0 : ¬ S kb) (h1 : ∀ k, lv.ownBlock = some k → ¬ S k) (h2 : ∀ k, wv.ownBlock = some k → ¬ S k) (h3 : ∀ k ∈ blks E, ¬ S k) : Bk w' base kb lv wv held E :=
  ⟨(hk.block kb h.lt h0).trans h.blk, h.lrow.keeps hk h1, h.wrow.keeps hk h2, h.ne, fun x hx => (h.ents x hx).keeps hk (fun k hk' => h3 k (List.mem_flatMap.2 ⟨x, hx, hk'⟩)), h.nodup⟩
theorem EntT.ok.keeps {S : Nat → Prop} {w w' : World} {base : Nat} {x : EntT} (h : x.ok w base) (hk : Keeps S w w') (hn : ∀ k ∈ x.bl, ¬ S k) : x.ok w' base :=
  ⟨h.l.keeps hk (fun k e => hn k (by simp [EntT.bl, e])), h.w.keeps hk (fun k e => hn k (by simp [EntT.bl, e])), h.sm⟩
theorem BkT.keeps {S : Nat → Prop} {w w' : World} {base kb : Nat} {lv wv : Value} {held : Int} {E : List EntT} (h : BkT w base kb lv wv held E) (hk : Keeps S w w') (h0 : ¬ S kb) (h1 : ∀ k, lv.ownBlock = some k → ¬ S k) (h2 : ∀ k, wv.ownBlock = some k → ¬ S k) (h3 : ∀ k ∈ blksT E, ¬ S k) : BkT w' base kb lv wv held E :=
  ⟨(hk.block kb h.lt h0).trans h.blk, h.lrow.keeps hk h1, h.wrow.keeps hk h2, h.ne, fun x hx => (h.ents x hx).keeps hk (fun k hk' => h3 k (List.mem_flatMap.2 ⟨x, hx, hk'⟩)), h.nodup⟩
/-- the blocks of a book's entries hold bytes -/
theorem Bk.tagE {w : World} {base kb : Nat} {lv wv : Value} {held : Int} {E : List Ent} (h : Bk w base kb lv wv held E) : ∀ k ∈ blks E, ∃ cur, w.heap[k]? = some (.cells cur 5 (0, 0)) := fun k hk => by
  obtain ⟨x, hx, h1 | h1⟩ := mem_blks.1 hk
  · exact (h.ents x hx).l.tagB k h1
  · exact (h.ents x hx).w.tagB k h1
theorem BkT.tagE {w : World} {base kb : Nat} {lv wv : Value} {held : Int} {E : List EntT} (h : BkT w base kb lv wv held E) : ∀ k ∈ blksT E, ∃ cur, w.heap[k]? = some (.cells cur 38 (0, 0)) := fun k hk => by
  obtain ⟨x, hx, h1 | h1⟩ := mem_blksT.1 hk
  · exact (h.ents x hx).l.tagB k h1
  · exact (h.ents x hx).w.tagB k h1
theorem Row.tagB {w : World} {g : Nat} {L : List Nat} (h : Row w g L) : ∃ cur, w.heap[g]? = some (.cells cur 5 (0, 0)) := ⟨_, h⟩
/-- what a block is tagged with -/
def Tg (w : World) (k : Nat) (t : TypeId) : Prop := ∃ cur, w.heap[k]? = some (.cells cur t (0, 0))
theorem Tg.ne {w : World} {k : Nat} {t t' : TypeId} (h : Tg w k t) (h' : Tg w k t') (hn : t ≠ t') : False := by
  obtain ⟨c, hc⟩ := h
  obtain ⟨d, hd⟩ := h'
  rw [hc] at hd
  simp only [Option.some.injEq, Obj.cells.injEq] at hd
  exact hn hd.2.1
/-- what stands between two rounds: the two books and the buffer; no block of F is a book's list's -/
structure Ks (w0 : World) (k1 k2 g : Nat) (F : Nat → Prop) (w : World) : Prop where
  below : Below w0.heap.size w0 w
  g1 : w0.heap.size ≤ k1
  g2 : w0.heap.size ≤ k2
  g3 : w0.heap.size ≤ g
  one : ∃ lv wv held E, BkT w w0.heap.size k1 lv wv held E ∧ E.length ≤ 4000 ∧ ∀ k ∈ blksT E, ¬ F k
  two : ∃ lv wv held E, Bk w w0.heap.size k2 lv wv held E ∧ E.length ≤ 4000 ∧ g ∉ blks E ∧ ∀ k ∈ blks E, ¬ F k
  buf : ∃ L, L.length = 3000 ∧ (∀ z ∈ L, z < 256) ∧ Row w g L
theorem Ks.size {w0 w : World} {k1 k2 g : Nat} {F : Nat → Prop} (h : Ks w0 k1 k2 g F w) : w0.heap.size ≤ w.heap.size := h.below.size
theorem Ks.lt {w0 w : World} {k1 k2 g : Nat} {F : Nat → Prop} (h : Ks w0 k1 k2 g F w) : g < w.heap.size := by
  obtain ⟨L, _, _, h⟩ := h.buf
  exact h.lt
theorem Ks.sub {w0 w : World} {k1 k2 g : Nat} {F F' : Nat → Prop} (h : Ks w0 k1 k2 g F w) (hs : ∀ k, F' k → F k) : Ks w0 k1 k2 g F' w := by
  obtain ⟨l1, v1, d1, E1, b1, n1, p1⟩ := h.one
  obtain ⟨l2, v2, d2, E2, b2, n2, f2, p2⟩ := h.two
  exact ⟨h.below, h.g1, h.g2, h.g3, ⟨l1, v1, d1, E1, b1, n1, fun k hk hf => p1 k hk (hs k hf)⟩, ⟨l2, v2, d2, E2, b2, n2, f2, fun k hk hf => p2 k hk (hs k hf)⟩, h.buf⟩
theorem Ks.fresh {w0 w : World} {k1 k2 g : Nat} {F : Nat → Prop} (h : Ks w0 k1 k2 g F w) : Ks w0 k1 k2 g (fun k => w.heap.size ≤ k) w := by
  obtain ⟨l1, v1, d1, E1, b1, n1, p1⟩ := h.one
  obtain ⟨l2, v2, d2, E2, b2, n2, f2, p2⟩ := h.two
  exact ⟨h.below, h.g1, h.g2, h.g3, ⟨l1, v1, d1, E1, b1, n1, fun k hk hf => absurd (blksT_lt b1.ents k hk) (by omega)⟩, ⟨l2, v2, d2, E2, b2, n2, f2, fun k hk hf => absurd (blks_lt b2.ents k hk) (by omega)⟩, h.buf⟩
theorem Ks.keeps0 {w0 w w' : World} {k1 k2 g : Nat} {F : Nat → Prop} (h : Ks w0 k1 k2 g F w) (k : Keeps (fun _ => False) w w') : Ks w0 k1 k2 g F w' := by
  obtain ⟨l1, v1, d1, E1, b1, n1, p1⟩ := h.one
  obtain ⟨l2, v2, d2, E2, b2, n2, f2, p2⟩ := h.two
  obtain ⟨L, hL, hs, hr⟩ := h.buf
  exact ⟨h.below.trans (k.below h.size (fun _ _ e => e.elim)), h.g1, h.g2, h.g3, ⟨l1, v1, d1, E1, b1.keeps k id (fun _ _ => id) (fun _ _ => id) (fun _ _ => id), n1, p1⟩, ⟨l2, v2, d2, E2, b2.keeps k id (fun _ _ => id) (fun _ _ => id) (fun _ _ => id), n2, f2, p2⟩, ⟨L, hL, hs, hr.keeps k id⟩⟩
theorem Ks.of_below {w0 w w' : World} {k1 k2 g : Nat} {F : Nat → Prop} (h : Ks w0 k1 k2 g F w) (k : Below w.heap.size w w') : Ks w0 k1 k2 g F w' := h.keeps0 (Keeps.of_below k)
/-- the buffer is written -/
theorem Ks.write {w0 w w' : World} {k1 k2 g : Nat} {F : Nat → Prop} {L' : List Nat} (h : Ks w0 k1 k2 g F w) (k : Keeps (fun k => k = g) w w') (hr' : Row w' g L') (hl' : L'.length = 3000) (hs' : ∀ z ∈ L', z < 256) : Ks w0 k1 k2 g F w' := by
  obtain ⟨l1, v1, d1, E1, b1, n1, p1⟩ := h.one
  obtain ⟨l2, v2, d2, E2, b2, n2, f2, p2⟩ := h.two
  obtain ⟨L, hL, hs, hr⟩ := h.buf
  have tg : Tg w g 5 := hr.tagB
  refine ⟨h.below.trans (k.below h.size (fun i _ e => by subst e; exact h.g3)), h.g1, h.g2, h.g3, ⟨l1, v1, d1, E1, b1.keeps k ?_ ?_ ?_ ?_, n1, p1⟩, ⟨l2, v2, d2, E2, b2.keeps k ?_ ?_ ?_ ?_, n2, f2, p2⟩, ⟨L', hl', hs', hr'⟩⟩
  · rintro rfl; exact Tg.ne tg ⟨_, b1.blk⟩ (by decide)
  · rintro i hi rfl; exact Tg.ne tg (b1.lrow.tag _ hi) (by decide)
  · rintro i hi rfl; exact Tg.ne tg (b1.wrow.tag _ hi) (by decide)
  · rintro i hi rfl; exact Tg.ne tg (b1.tagE _ hi) (by decide)
  · rintro rfl; exact Tg.ne tg ⟨_, b2.blk⟩ (by decide)
  · rintro i hi rfl; exact Tg.ne tg (b2.lrow.tag _ hi) (by decide)
  · rintro i hi rfl; exact Tg.ne tg (b2.wrow.tag _ hi) (by decide)
  · rintro i hi rfl; exact f2 hi
/-- a list of lexemes is kept -/
theorem Ks.keepT {w0 w : World} {k1 k2 g b : Nat} {F : Nat → Prop} {la : Option Addr} {ln lc : Nat} {xs : List Tok} (h : Ks w0 k1 k2 g F w) (hl : OwnT w b (.slice la ln lc) xs) (hb : w0.heap.size ≤ b) (hxs : xs.length ≤ 1048576) (hf : ∀ k, (Value.slice la ln lc).ownBlock = some k → F k) :
    Calls Tryd.prog 7 #[.pointer (some ⟨k1, 0, none⟩), .slice la ln lc] w fun e w' => e = .returned (.tuple #[]) ∧ Ks w0 k1 k2 g (fun _ => False) w' := by
  obtain ⟨l1, v1, d1, E1, b1, n1, p1⟩ := h.one
  obtain ⟨l2, v2, d2, E2, b2, n2, f2, p2⟩ := h.two
  obtain ⟨L, hL, hs, hr⟩ := h.buf
  refine (bkT_keep b1 (OwnT.weak hl hb) hxs hxs n1 h.size (fun k hk hm => p1 k hm (hf k hk))).mono ?_
  rintro e w' ⟨rfl, lv', wv', d', E', b', n', _, ke⟩
  have t1 : Tg w k1 25 := ⟨_, b1.blk⟩
  refine ⟨rfl, h.below.trans (Keeps.below ke h.size ?_), h.g1, h.g2, h.g3, ⟨lv', wv', d', E', b', n', fun _ _ => id⟩, ⟨l2, v2, d2, E2, b2.keeps ke ?_ ?_ ?_ ?_, n2, f2, fun _ _ => id⟩, ⟨L, hL, hs, hr.keeps ke ?_⟩⟩
  · rintro i _ (rfl | ⟨h', _⟩)
    · exact h.g1
    · exact h'
  · rintro (rfl | ⟨_, h'⟩)
    · exact Tg.ne t1 ⟨_, b2.blk⟩ (by decide)
    · exact Tg.ne h' ⟨_, b2.blk⟩ (by decide)
  · rintro i hi (rfl | ⟨_, h'⟩)
    · exact Tg.ne t1 (b2.lrow.tag _ hi) (by decide)
    · exact Tg.ne h' (b2.lrow.tag _ hi) (by decide)
  · rintro i hi (rfl | ⟨_, h'⟩)
    · exact Tg.ne t1 (b2.wrow.tag _ hi) (by decide)
    · exact Tg.ne h' (b2.wrow.tag _ hi) (by decide)
  · rintro i hi (rfl | ⟨_, h'⟩)
    · exact Tg.ne t1 (b2.tagE _ hi) (by decide)
    · exact Tg.ne h' (b2.tagE _ hi) (by decide)
  · rintro (rfl | ⟨_, h'⟩)
    · exact Tg.ne t1 hr.tagB (by decide)
    · exact Tg.ne h' hr.tagB (by decide)
/-- a list of bytes is kept; other lists stay as they are -/
theorem Ks.keepB {w0 w : World} {k1 k2 g b : Nat} {F : Nat → Prop} {la : Option Addr} {ln lc : Nat} {xs : List Nat} (h : Ks w0 k1 k2 g F w) (hl : Own w b (.slice la ln lc) xs) (hb : w0.heap.size ≤ b) (hg : g < b) (hxs : xs.length ≤ 140737488351232) (hsm : ∀ z ∈ xs, z < 256) (hf : ∀ k, (Value.slice la ln lc).ownBlock = some k → F k) :
    Calls Tryd.prog 13 #[.pointer (some ⟨k2, 0, none⟩), .slice la ln lc] w fun e w' => e = .returned (.tuple #[]) ∧ Ks w0 k1 k2 g (fun k => F k ∧ (Value.slice la ln lc).ownBlock ≠ some k ∧ k < w.heap.size) w' ∧ ∀ b v xs, Own w b v xs → Own w' b v xs := by
  obtain ⟨l1, v1, d1, E1, b1, n1, p1⟩ := h.one
  obtain ⟨l2, v2, d2, E2, b2, n2, f2, p2⟩ := h.two
  obtain ⟨L, hL, hs, hr⟩ := h.buf
  refine (bk_keep b2 (Own.weak hl hb) hxs hsm n2 h.size (fun k hk hm => p2 k hm (hf k hk))).mono ?_
  rintro e w' ⟨rfl, lv', wv', d', E', b', n', hE', ke⟩
  have t1 : Tg w k2 27 := ⟨_, b2.blk⟩
  refine ⟨rfl, ⟨h.below.trans (Keeps.below ke h.size ?_), h.g1, h.g2, h.g3, ⟨l1, v1, d1, E1, b1.keeps ke ?_ ?_ ?_ ?_, n1, fun k hk hf => p1 k hk hf.1⟩, ⟨lv', wv', d', E', b', n', ?_, ?_⟩, ⟨L, hL, hs, hr.keeps ke ?_⟩⟩, fun b v xs ho => ho.ke b2.blk ke⟩
  · rintro i _ (rfl | ⟨h', _⟩)
    · exact h.g2
    · exact h'
  · rintro (rfl | ⟨_, h'⟩)
    · exact Tg.ne t1 ⟨_, b1.blk⟩ (by decide)
    · exact Tg.ne h' ⟨_, b1.blk⟩ (by decide)
  · rintro i hi (rfl | ⟨_, h'⟩)
    · exact Tg.ne t1 (b1.lrow.tag _ hi) (by decide)
    · exact Tg.ne h' (b1.lrow.tag _ hi) (by decide)
  · rintro i hi (rfl | ⟨_, h'⟩)
    · exact Tg.ne t1 (b1.wrow.tag _ hi) (by decide)
    · exact Tg.ne h' (b1.wrow.tag _ hi) (by decide)
  · rintro i hi (rfl | ⟨_, h'⟩)
    · exact Tg.ne t1 (b1.tagE _ hi) (by decide)
    · exact Tg.ne h' (b1.tagE _ hi) (by decide)
  · intro hm
    rcases hE' g hm with h' | h' | h'
    · exact f2 h'
    · exact absurd (hl.lt g h').1 (by omega)
    · exact absurd hr.lt (by omega)
  · rintro k hk ⟨h1, h2, h3⟩
    rcases hE' k hk with h' | h' | h'
    · exact p2 k h' h1
    · exact h2 h'
    · omega
  · rintro (rfl | ⟨_, h'⟩)
    · exact Tg.ne t1 hr.tagB (by decide)
    · exact Tg.ne h' hr.tagB (by decide)
/-- the start: two empty books, a buffer of zeros -/
theorem Ks.start {w w1 : World} (hr : Row w1 (w.heap.size + 2) (List.replicate 3000 0)) (hg : ((w.alloc (.cells #[.slice none 0 0, .slice none 0 0, .int .i64 0, .bool false] 25)).alloc (.cells #[.slice none 0 0, .slice none 0 0, .int .i64 0, .bool false] 27)).grownBy w1 none) : Ks w w.heap.size (w.heap.size + 1) (w.heap.size + 2) (fun _ => False) w1 := by
  have k := Keeps.of_grown hg
  have e1 : ((w.alloc (.cells #[.slice none 0 0, .slice none 0 0, .int .i64 0, .bool false] 25)).alloc (.cells #[.slice none 0 0, .slice none 0 0, .int .i64 0, .bool false] 27)).heap[w.heap.size]? = some (.cells #[.slice none 0 0, .slice none 0 0, .int .i64 0, .bool false] 25 (0, 0)) := by
    refine (Below.heap_alloc _ _ w.heap.size ?_).trans Array.getElem?_push_size
    show w.heap.size < (w.heap.push _).size
    rw [Array.size_push]
    exact Nat.lt_succ_self _
  have e2 : ((w.alloc (.cells #[.slice none 0 0, .slice none 0 0, .int .i64 0, .bool false] 25)).alloc (.cells #[.slice none 0 0, .slice none 0 0, .int .i64 0, .bool false] 27)).heap[w.heap.size + 1]? = some (.cells #[.slice none 0 0, .slice none 0 0, .int .i64 0, .bool false] 27 (0, 0)) := by
    have := Array.getElem?_push_size (xs := (w.heap.push (.cells #[.slice none 0 0, .slice none 0 0, .int .i64 0, .bool false] 25 (0, 0)))) (x := Obj.cells #[.slice none 0 0, .slice none 0 0, .int .i64 0, .bool false] 27 (0, 0))
    rw [Array.size_push] at this
    exact this
  have b1 := (bkT_new (base := w.heap.size) e1).keeps k (by simp) (fun _ h => by cases h) (fun _ h => by cases h) (fun _ h => by simp [blksT] at h)
  have b2 := (bk_new (base := w.heap.size) e2).keeps k (by simp) (fun _ h => by cases h) (fun _ h => by cases h) (fun _ h => by simp [blks] at h)
  refine ⟨?_, Nat.le_refl _, by omega, by omega, ⟨_, _, _, [], b1, by simp, fun _ _ => id⟩, ⟨_, _, _, [], b2, by simp, by simp [blks], fun _ _ => id⟩, ⟨_, List.length_replicate, fun z hz => by rw [List.eq_of_mem_replicate hz]; decide, hr⟩⟩
  have s1 : w.heap.size ≤ (w.alloc (.cells #[.slice none 0 0, .slice none 0 0, .int .i64 0, .bool false] 25)).heap.size := by simp
  have s2 := Nat.le_trans s1 (show _ ≤ ((w.alloc (.cells #[.slice none 0 0, .slice none 0 0, .int .i64 0, .bool false] 25)).alloc (.cells #[.slice none 0 0, .slice none 0 0, .int .i64 0, .bool false] 27)).heap.size by simp)
  exact (((Below.refl _ _).alloc (Nat.le_refl _) _).alloc s1 _).grown hg s2 (by simp)
/-- the end: both books are apart -/
theorem Ks.apartT {w0 w : World} {k1 k2 g : Nat} {F : Nat → Prop} (h : Ks w0 k1 k2 g F w) :
    Calls Tryd.prog 14 #[.pointer (some ⟨k1, 0, none⟩), .func (.func 15) #[] #[]] w fun e w' => e = .returned (.bool true) ∧ Below w0.heap.size w0 w' ∧ ∃ lv wv held E, Bk w' w0.heap.size k2 lv wv held E ∧ E.length ≤ 4000 := by
  obtain ⟨l1, v1, d1, E1, b1, n1, p1⟩ := h.one
  obtain ⟨l2, v2, d2, E2, b2, n2, f2, p2⟩ := h.two
  refine (bkT_apart b1 n1).mono ?_
  rintro e w' ⟨rfl, k⟩
  have t1 : Tg w k1 25 := ⟨_, b1.blk⟩
  have t2 : ∀ i, (∃ e ∈ E1, e.lv.ownBlock = some i) → Tg w i 38 := fun i ⟨e, he, hi⟩ => b1.tagE i (mem_blksT.2 ⟨e, he, .inl hi⟩)
  refine ⟨rfl, h.below.trans (k.below h.size ?_), l2, v2, d2, E2, b2.keeps k ?_ ?_ ?_ ?_, n2⟩
  · rintro i _ (rfl | ⟨e, he, hi⟩)
    · exact h.g1
    · exact ((b1.ents e he).l.lt i hi).1
  · rintro (rfl | h')
    · exact Tg.ne t1 ⟨_, b2.blk⟩ (by decide)
    · exact Tg.ne (t2 _ h') ⟨_, b2.blk⟩ (by decide)
  · rintro i hi (rfl | h')
    · exact Tg.ne t1 (b2.lrow.tag _ hi) (by decide)
    · exact Tg.ne (t2 _ h') (b2.lrow.tag _ hi) (by decide)
  · rintro i hi (rfl | h')
    · exact Tg.ne t1 (b2.wrow.tag _ hi) (by decide)
    · exact Tg.ne (t2 _ h') (b2.wrow.tag _ hi) (by decide)
  · rintro i hi (rfl | h')
    · exact Tg.ne t1 (b2.tagE _ hi) (by decide)
    · exact Tg.ne (t2 _ h') (b2.tagE _ hi) (by decide)
theorem apartB_end {w0 w : World} {k2 : Nat} (hb : Below w0.heap.size w0 w) (g2 : w0.heap.size ≤ k2) (h : ∃ lv wv held E, Bk w w0.heap.size k2 lv wv held E ∧ E.length ≤ 4000) :
    Calls Tryd.prog 16 #[.pointer (some ⟨k2, 0, none⟩), .func (.func 17) #[] #[]] w fun e w' => e = .returned (.bool true) ∧ Below w0.heap.size w0 w' := by
  obtain ⟨l2, v2, d2, E2, b2, n2⟩ := h
  refine (bk_apart b2 n2).mono ?_
  rintro e w' ⟨rfl, k⟩
  refine ⟨rfl, hb.trans (k.below hb.size ?_)⟩
  rintro i _ (rfl | ⟨e, he, hi⟩)
  · exact g2
  · exact ((b2.ents e he).l.lt i hi).1
theorem splice_bvs (L p : List Nat) : splice (bvs L) 0 (bvs p) = bvs (p ++ L.drop p.length) := by simp [splice, bvs]
/-- copy into a row that is known: only that row is written -/
theorem wpList_copyK {P : Program} {w : World} {ops : Array Oper} {rest : List Oper} {o : Oper} {a : Act} {Q : Exit → Act → World → Prop} (hgd : o.guard = none) (d s : Operand) (dT sT : TypeId)
    (ho : o.op = .call { callee := .builtin .copy, args := #[d, s], argTypes := #[dT, sT] }) (elem : TypeId) (hu : P.underlying dT = some (.slice elem)) (hsz : (P.info? elem).map (·.size) = some 1)
    (dp sp : Option Addr) (dLen dCap sLen sCap : Nat) (hd : a.eval d = .slice dp dLen dCap) (hs : a.eval s = .slice sp sLen sCap)
    (g off : Nat) (cur : List Value) (t : TypeId) (hg : w.heap[g]? = some (.cells cur.toArray t (0, 0))) (cs : List Value) (hn : cs.length = Nat.min sLen dLen)
    (hpos : 0 < cs.length → dp = some ⟨g, off, none⟩ ∧ ∃ ad, sp = some ad ∧ ∀ j v, cs[j]? = some v → w.cell? (ad.add j) = some v)
    (hfit : off + cs.length ≤ cur.length) (h1 : ∀ v ∈ cs, v.oneCell' = true)
    (h : ∀ w', Hid (w'.heap[g]? = some (.cells (splice cur off cs).toArray t (0, 0))) → Hid (Keeps (fun k => k = g) w w') → wpList P ops Q rest (a.put o.dst (goInt cs.length)) w') :
    wpList P ops Q (o :: rest) a w := by
  by_cases h0 : cs.length = 0
  · obtain rfl : cs = [] := List.eq_nil_of_length_eq_zero h0
    refine wpList_copy_nothing hgd d s dT sT ho elem hu hsz dp sp dLen dCap sLen sCap hd hs (by simpa using hn.symm) ?_
    exact h w (show _ = _ by simpa [splice] using hg) (Keeps.refl _ _)
  · obtain ⟨rfl, ad, rfl, hsrc⟩ := hpos (by omega)
    refine wpList_copy_own hgd d s dT sT ho elem hu hsz g off dLen dCap ad sLen sCap hd hs cur.toArray t hg cs hn hsrc (by simpa using hfit) h1 ?_
    exact h _ (show _ = _ by simpa [splice] using setRow_heap w g _ _ t _ hg) ⟨rfl, rfl, rfl, by simp [World.setRow], fun i _ hn => setRow_other w g i _ hn⟩
end Go.Proofs.YtlhecgokedckdaaDoor
