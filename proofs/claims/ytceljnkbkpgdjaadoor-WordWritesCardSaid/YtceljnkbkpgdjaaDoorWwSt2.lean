/- WordWrites: a list is kept; a writer more; the start. Own work. -/
import Derived.Test.YtceljnkbkpgdjaaDoorWwSt
namespace Go.Proofs.YtceljnkbkpgdjaaDoor
open Go.RowKit Go.Shelf
set_option linter.unusedVariables false
variable {pfA pfB : Value}
theorem RowV.tg {w : World} {base : Nat} {e : TypeId} {v : Value} {vs : List Value} (h : RowV w base e v vs) (k : Nat) (hk : v.ownBlock = some k) : Tg w k e := h.tag k hk
/-- blocks of other tags stay while the book is written -/
theorem kes_no {base X k : Nat} {w : World} {t : TypeId} {cs : Array Value} (hX : w.heap[X]? = some (.cells cs 31 (0, 0))) (hk : Tg w k t) (h1 : t ≠ 31) (h2 : t ≠ 34) : ¬ KeS base X w k := by
  rintro (rfl | ⟨_, h⟩)
  · exact hk.ne ⟨_, hX⟩ h1
  · exact hk.ne h h2
theorem Wi.ok.tags {S : Nat → Prop} {w w' : World} {base i : Nat} {c c' : Nat → Nat} {x : Wi} (h : x.ok w base c i) (hk : Keeps S w w') (hS : ∀ k, S k → ¬ Tg w k 73 ∧ ¬ Tg w k 55 ∧ ¬ Tg w k 5) (hc : ∀ k, k < w.heap.size → c' k = c k) : x.ok w' base c' i := by
  refine ⟨h.wr.keeps hk (fun hs => (hS _ hs).1 ⟨_, h.wr.1⟩) (fun k e hs => (hS _ hs).2.2 (h.wr.2.1.tagB k e)), h.rw.keeps hk (fun hs => (hS _ hs).2.1 ⟨_, h.rw.1⟩) (fun k e hs => (hS _ hs).2.2 (h.rw.2.1.tagB k e)), h.gp, h.gr, ?_, ?_, fun k e => ?_, fun k e => ?_⟩
  · rw [hc _ h.wr.lt]; exact h.cp
  · rw [hc _ h.rw.lt]; exact h.cr
  · rw [hc _ (h.wr.2.1.lt k e).2]; exact h.cv k e
  · rw [hc _ (h.rw.2.1.lt k e).2]; exact h.cu k e
/-- a list that was told is kept -/
theorem Ws.tell {w0 w w2 : World} {X : Nat} {c : Nat → Nat} {L : List Wi} {la : Option Addr} {ln lc : Nat} {xs : List Nat} (h : Ws w0 X c L w) (hb : Below w.heap.size w w2) (hl : Own w2 w.heap.size (.slice la ln lc) xs) (hxs : xs.length ≤ 140737488351232) (hsm : ∀ z ∈ xs, z < 256) :
    Calls Tryd.prog 20 #[.pointer (some ⟨X, 2, none⟩), .slice la ln lc] w2 fun e w' => e = .returned (.tuple #[]) ∧ ∃ c', Ws w0 X c' L w' := by
  obtain ⟨A, B, lv, wv, held, E, b, n, ra, rb, ce⟩ := h.rows
  have k0 : Keeps (fun _ => False) w w2 := Keeps.of_below hb
  have b2 := b.keeps k0 id (fun _ _ => id) (fun _ _ => id) (fun _ _ => id)
  refine (bk_keep b2 (hl.weak h.size) hxs hsm n (Nat.le_trans h.size hb.size) (fun k hk hm => ?_)).mono ?_
  · have h1 := (hl.lt k hk).1
    have h2 := (b.tagE k hm).lt
    omega
  rintro e w' ⟨rfl, lv', wv', held', E', b', n', hE', ke⟩
  have ke' : Keeps (KeS w0.heap.size X w2) w2 w' := ke
  refine ⟨rfl, fun q => if q < w.heap.size then c q else 0, (h.below.trans (hb.mono h.size)).trans (ke'.below (Nat.le_trans h.size hb.size) ?_), h.gx, ⟨A, B, lv', wv', held', E', b', n', ?_, ?_, fun k hk => ?_⟩, fun i hi => ?_⟩
  · rintro q _ (rfl | ⟨hq, _⟩)
    · exact h.gx
    · exact hq
  · exact (ra.keeps k0 (fun _ _ => id)).keeps ke' (fun q hq => kes_no b2.blk ((ra.keeps k0 (fun _ _ => id)).tg q hq) (by decide) (by decide))
  · exact (rb.keeps k0 (fun _ _ => id)).keeps ke' (fun q hq => kes_no b2.blk ((rb.keeps k0 (fun _ _ => id)).tg q hq) (by decide) (by decide))
  · show (if k < w.heap.size then c k else 0) = 0
    split
    · next hlt =>
      rcases hE' k hk with h1 | h1 | h1
      · exact ce k h1
      · have := (hl.lt k h1).1
        omega
      · have := hb.size
        omega
    · rfl
  · have h1 : (L[i]).ok w2 w0.heap.size (fun q => if q < w.heap.size then c q else 0) i := (h.ok i hi).keeps (S := fun _ => False) k0 (fun _ e => e.elim) (fun q hq => if_pos hq)
    refine h1.tags ke' (fun q hq => ⟨fun t => ?_, fun t => ?_, fun t => ?_⟩) (fun _ _ => rfl)
    · exact kes_no b2.blk t (by decide) (by decide) hq
    · exact kes_no b2.blk t (by decide) (by decide) hq
    · exact kes_no b2.blk t (by decide) (by decide) hq
/-- the row of writers, its two rows by name -/
structure Wm (w0 : World) (X : Nat) (c : Nat → Nat) (L : List Wi) (As Bs : List Value) (A B : Value) (w : World) : Prop where
  below : Below w0.heap.size w0 w
  gx : w0.heap.size ≤ X
  rows : ∃ lv wv held E, Bk A B w w0.heap.size X lv wv held E ∧ E.length ≤ 4000 ∧ ∀ k ∈ blks E, c k = 0
  ra : RowV w w0.heap.size 51 A As
  rb : RowV w w0.heap.size 53 B Bs
  ok : ∀ i (h : i < L.length), (L[i]).ok w w0.heap.size c i
theorem Ws.wm {w0 w : World} {X : Nat} {c : Nat → Nat} {L : List Wi} (h : Ws w0 X c L w) : ∃ A B, Wm w0 X c L (L.map ptrP) (L.map ptrR) A B w := by
  obtain ⟨A, B, lv, wv, held, E, b, n, ra, rb, ce⟩ := h.rows
  exact ⟨A, B, h.below, h.gx, ⟨lv, wv, held, E, b, n, ce⟩, ra, rb, h.ok⟩
theorem Wm.ws {w0 w : World} {X : Nat} {c : Nat → Nat} {L : List Wi} {A B : Value} (h : Wm w0 X c L (L.map ptrP) (L.map ptrR) A B w) : Ws w0 X c L w := by
  obtain ⟨lv, wv, held, E, b, n, ce⟩ := h.rows
  exact ⟨h.below, h.gx, ⟨A, B, lv, wv, held, E, b, n, h.ra, h.rb, ce⟩, h.ok⟩
theorem Wm.size {w0 w : World} {X : Nat} {c : Nat → Nat} {L : List Wi} {As Bs : List Value} {A B : Value} (h : Wm w0 X c L As Bs A B w) : w0.heap.size ≤ w.heap.size := h.below.size
theorem Wm.of_below {w0 w w' : World} {X : Nat} {c : Nat → Nat} {L : List Wi} {As Bs : List Value} {A B : Value} (h : Wm w0 X c L As Bs A B w) (hb : Below w.heap.size w w') : Wm w0 X c L As Bs A B w' := by
  obtain ⟨lv, wv, held, E, b, n, ce⟩ := h.rows
  have k : Keeps (fun _ => False) w w' := Keeps.of_below hb
  exact ⟨h.below.trans (hb.mono h.size), h.gx, ⟨lv, wv, held, E, b.keeps k id (fun _ _ => id) (fun _ _ => id) (fun _ _ => id), n, ce⟩, h.ra.keeps k (fun _ _ => id), h.rb.keeps k (fun _ _ => id), fun i hi => (h.ok i hi).below hb⟩
theorem Wm.cells {w0 w : World} {X : Nat} {c : Nat → Nat} {L : List Wi} {As Bs : List Value} {A B : Value} (h : Wm w0 X c L As Bs A B w) : w.cell? ⟨X, 0, none⟩ = some A ∧ w.cell? ⟨X, 1, none⟩ = some B ∧ X < w.heap.size ∧ ∀ i, w.frozen? ⟨X, i, none⟩ = false := by
  obtain ⟨lv, wv, held, E, b, n, ce⟩ := h.rows
  refine ⟨by rw [cell_of_row _ _ _ _ _ _ b.blk]; rfl, by rw [cell_of_row _ _ _ _ _ _ b.blk]; rfl, b.lt, b.thawed⟩
/-- the first row grew -/
theorem Wm.appA {w0 w w1 : World} {X : Nat} {c : Nat → Nat} {L : List Wi} {As Bs As' : List Value} {A B A' : Value} (h : Wm w0 X c L As Bs A B w) (hg : w.grownBy w1 A.ownBlock) (hr : RowV w1 w0.heap.size 51 A' As') :
    Wm w0 X c L As' Bs A' B (w1.setCell ⟨X, 0, none⟩ A') ∧ w1.cell? ⟨X, 0, none⟩ = some A ∧ w1.frozen? ⟨X, 0, none⟩ = false ∧ Keeps (fun q => q = X ∨ A.ownBlock = some q) w (w1.setCell ⟨X, 0, none⟩ A') := by
  obtain ⟨lv, wv, held, E, b, n, ce⟩ := h.rows
  have k1 : Keeps (fun q => A.ownBlock = some q) w w1 := Keeps.of_grown hg
  have tA : ∀ q, A.ownBlock = some q → Tg w q 51 := h.ra.tg
  have nt : ∀ q t, Tg w q t → t ≠ 51 → ¬ A.ownBlock = some q := fun q t hq hn e => hq.ne (tA q e) hn
  have b1 := b.keeps k1 (nt X _ ⟨_, b.blk⟩ (by decide)) (fun q hq => nt q _ (b.lrow.tag q hq) (by decide)) (fun q hq => nt q _ (b.wrow.tag q hq) (by decide)) (fun q hq => nt q _ (b.tagE q hq) (by decide))
  have rb1 := h.rb.keeps k1 (fun q hq => nt q _ (h.rb.tg q hq) (by decide))
  have k2 : Keeps (fun q => q = X) w1 (w1.setCell ⟨X, 0, none⟩ A') := Keeps.setCell w1 X 0 A'
  have kk : Keeps (fun q => q = X ∨ A.ownBlock = some q) w (w1.setCell ⟨X, 0, none⟩ A') := (k1.mono (fun _ _ e => Or.inr e)).trans k2 (fun _ _ e => .inl e)
  have nX : ∀ q t, Tg w1 q t → t ≠ 31 → ¬ q = X := fun q t hq hn e => by subst e; exact hq.ne ⟨_, b1.blk⟩ hn
  have blk : (w1.setCell ⟨X, 0, none⟩ A').heap[X]? = some (.cells #[A', B, lv, wv, .int .i64 held, .bool false] 31 (0, 0)) := by
    simp [World.setCell, Array.getElem?_modify, b1.blk]
  have tE : ∀ x ∈ E, ∀ q ∈ x.bl, Tg w1 q 5 := fun x hx q hq => b1.tagE q (List.mem_flatMap.2 ⟨x, hx, hq⟩)
  refine ⟨⟨h.below.trans (kk.below h.size ?_), h.gx, ⟨lv, wv, held, E, ⟨blk, b1.lrow.keeps k2 (fun q hq => nX q _ (b1.lrow.tag q hq) (by decide)), b1.wrow.keeps k2 (fun q hq => nX q _ (b1.wrow.tag q hq) (by decide)), b1.ne, fun x hx => (b1.ents x hx).keeps k2 (fun q hq => nX q _ (tE x hx q hq) (by decide)), b1.nodup⟩, n, ce⟩, hr.keeps k2 (fun q hq => nX q _ (hr.tg q hq) (by decide)), rb1.keeps k2 (fun q hq => nX q _ (rb1.tg q hq) (by decide)), fun i hi => ?_⟩, ?_, ?_, kk⟩
  · rintro q _ (rfl | hq)
    · exact h.gx
    · exact (h.ra.lt q hq).1
  · refine (h.ok i hi).tags kk (fun q hq => ?_) (fun _ _ => rfl)
    rcases hq with rfl | hq
    · exact ⟨fun t => t.ne ⟨_, b.blk⟩ (by decide), fun t => t.ne ⟨_, b.blk⟩ (by decide), fun t => t.ne ⟨_, b.blk⟩ (by decide)⟩
    · exact ⟨fun t => t.ne (tA q hq) (by decide), fun t => t.ne (tA q hq) (by decide), fun t => t.ne (tA q hq) (by decide)⟩
  · rw [cell_of_row _ _ _ _ _ _ b1.blk]; rfl
  · exact b1.thawed 0
/-- the second row grew -/
theorem Wm.appB {w0 w w1 : World} {X : Nat} {c : Nat → Nat} {L : List Wi} {As Bs Bs' : List Value} {A B B' : Value} (h : Wm w0 X c L As Bs A B w) (hg : w.grownBy w1 B.ownBlock) (hr : RowV w1 w0.heap.size 53 B' Bs') :
    Wm w0 X c L As Bs' A B' (w1.setCell ⟨X, 1, none⟩ B') ∧ w1.cell? ⟨X, 1, none⟩ = some B ∧ w1.frozen? ⟨X, 1, none⟩ = false ∧ Keeps (fun q => q = X ∨ B.ownBlock = some q) w (w1.setCell ⟨X, 1, none⟩ B') := by
  obtain ⟨lv, wv, held, E, b, n, ce⟩ := h.rows
  have k1 : Keeps (fun q => B.ownBlock = some q) w w1 := Keeps.of_grown hg
  have tA : ∀ q, B.ownBlock = some q → Tg w q 53 := h.rb.tg
  have nt : ∀ q t, Tg w q t → t ≠ 53 → ¬ B.ownBlock = some q := fun q t hq hn e => hq.ne (tA q e) hn
  have b1 := b.keeps k1 (nt X _ ⟨_, b.blk⟩ (by decide)) (fun q hq => nt q _ (b.lrow.tag q hq) (by decide)) (fun q hq => nt q _ (b.wrow.tag q hq) (by decide)) (fun q hq => nt q _ (b.tagE q hq) (by decide))
  have ra1 := h.ra.keeps k1 (fun q hq => nt q _ (h.ra.tg q hq) (by decide))
  have k2 : Keeps (fun q => q = X) w1 (w1.setCell ⟨X, 1, none⟩ B') := Keeps.setCell w1 X 1 B'
  have kk : Keeps (fun q => q = X ∨ B.ownBlock = some q) w (w1.setCell ⟨X, 1, none⟩ B') := (k1.mono (fun _ _ e => Or.inr e)).trans k2 (fun _ _ e => .inl e)
  have nX : ∀ q t, Tg w1 q t → t ≠ 31 → ¬ q = X := fun q t hq hn e => by subst e; exact hq.ne ⟨_, b1.blk⟩ hn
  have blk : (w1.setCell ⟨X, 1, none⟩ B').heap[X]? = some (.cells #[A, B', lv, wv, .int .i64 held, .bool false] 31 (0, 0)) := by
    simp [World.setCell, Array.getElem?_modify, b1.blk]
  have tE : ∀ x ∈ E, ∀ q ∈ x.bl, Tg w1 q 5 := fun x hx q hq => b1.tagE q (List.mem_flatMap.2 ⟨x, hx, hq⟩)
  refine ⟨⟨h.below.trans (kk.below h.size ?_), h.gx, ⟨lv, wv, held, E, ⟨blk, b1.lrow.keeps k2 (fun q hq => nX q _ (b1.lrow.tag q hq) (by decide)), b1.wrow.keeps k2 (fun q hq => nX q _ (b1.wrow.tag q hq) (by decide)), b1.ne, fun x hx => (b1.ents x hx).keeps k2 (fun q hq => nX q _ (tE x hx q hq) (by decide)), b1.nodup⟩, n, ce⟩, ra1.keeps k2 (fun q hq => nX q _ (ra1.tg q hq) (by decide)), hr.keeps k2 (fun q hq => nX q _ (hr.tg q hq) (by decide)), fun i hi => ?_⟩, ?_, ?_, kk⟩
  · rintro q _ (rfl | hq)
    · exact h.gx
    · exact (h.rb.lt q hq).1
  · refine (h.ok i hi).tags kk (fun q hq => ?_) (fun _ _ => rfl)
    rcases hq with rfl | hq
    · exact ⟨fun t => t.ne ⟨_, b.blk⟩ (by decide), fun t => t.ne ⟨_, b.blk⟩ (by decide), fun t => t.ne ⟨_, b.blk⟩ (by decide)⟩
    · exact ⟨fun t => t.ne (tA q hq) (by decide), fun t => t.ne (tA q hq) (by decide), fun t => t.ne (tA q hq) (by decide)⟩
  · rw [cell_of_row _ _ _ _ _ _ b1.blk]; rfl
  · exact b1.thawed 1
/-- new blocks are nobody's -/
theorem Ws.fresh {w0 w : World} {X : Nat} {c : Nat → Nat} {L : List Wi} (h : Ws w0 X c L w) : Ws w0 X (fun q => if q < w.heap.size then c q else 1) L w := by
  obtain ⟨A, B, lv, wv, held, E, b, n, ra, rb, ce⟩ := h.rows
  exact ⟨h.below, h.gx, ⟨A, B, lv, wv, held, E, b, n, ra, rb, fun k hk => (if_pos (b.tagE k hk).lt).trans (ce k hk)⟩, fun i hi => (h.ok i hi).keeps (S := fun _ => False) (Keeps.refl _ _) (fun _ e => e.elim) (fun q hq => if_pos hq)⟩
/-- a writer more: m: how many blocks there were ahead of it -/
theorem Wm.more {w0 w : World} {X m p r : Nat} {c : Nat → Nat} {L : List Wi} {A B : Value} (h : Wm w0 X c L (L.map ptrP ++ [.pointer (some ⟨p, 0, none⟩)]) (L.map ptrR ++ [.pointer (some ⟨r, 0, none⟩)]) A B w) (hc : ∀ k, m ≤ k → c k = 1) (hp : m ≤ p) (hr : m ≤ r) (hpr : p ≠ r) (h0 : w0.heap.size ≤ m) (hw : Wr w p (.slice none 0 0) [] 0 w0.heap.size) (hx : Rw w r (.slice none 0 0) [] 0 w0.heap.size) : ∃ c', Ws w0 X c' (L ++ [⟨p, r, .slice none 0 0, .slice none 0 0, [], 0⟩]) w := by
  obtain ⟨lv, wv, held, E, b, n, ce⟩ := h.rows
  obtain ⟨c', hc'⟩ : ∃ c' : Nat → Nat, c' = fun q => if q < m then c q else if q = r then 2 * L.length + 3 else 2 * L.length + 2 := ⟨_, rfl⟩
  have hold : ∀ q, q < m → c' q = c q := fun q hq => by rw [hc']; exact if_pos hq
  have low : ∀ q, c q ≠ 1 → q < m := fun q hq => Classical.byContradiction fun hn => hq (hc q (by omega))
  refine ⟨c', h.below, h.gx, ⟨A, B, lv, wv, held, E, b, n, ?_, ?_, fun k hk => ?_⟩, fun i hi => ?_⟩
  · rw [List.map_append]; exact h.ra
  · rw [List.map_append]; exact h.rb
  · have := ce k hk
    rw [hold k (low k (by omega))]
    exact this
  · rw [List.length_append, List.length_singleton] at hi
    rw [List.getElem_append]
    split
    · next hl =>
      have o := h.ok i hl
      have c1 := o.cp
      have c2 := o.cr
      refine ⟨o.wr, o.rw, o.gp, o.gr, ?_, ?_, fun k hk => ?_, fun k hk => ?_⟩
      · rw [hold _ (low _ (by omega))]; exact c1
      · rw [hold _ (low _ (by omega))]; exact c2
      · have := o.cv k hk
        rw [hold _ (low _ (by omega))]; exact this
      · have := o.cu k hk
        rw [hold _ (low _ (by omega))]; exact this
    · next hl =>
      obtain rfl : i = L.length := by omega
      rw [List.getElem_singleton]
      refine ⟨hw, hx, by show w0.heap.size ≤ p; omega, by show w0.heap.size ≤ r; omega, ?_, ?_, fun k hk => ?_, fun k hk => ?_⟩
      · show c' p = _
        rw [hc']
        show (if p < m then c p else if p = r then 2 * L.length + 3 else 2 * L.length + 2) = _
        rw [if_neg (by omega), if_neg hpr]
      · show c' r = _
        rw [hc']
        show (if r < m then c r else if r = r then 2 * L.length + 3 else 2 * L.length + 2) = _
        rw [if_neg (by omega), if_pos rfl]
      · replace hk : (Value.slice none 0 0).ownBlock = some k := hk
        cases hk
      · replace hk : (Value.slice none 0 0).ownBlock = some k := hk
        cases hk
/-- the start: no writer, an empty book -/
theorem Ws.start (w : World) : Ws w w.heap.size (fun _ => 1) [] (w.alloc (.cells #[.slice none 0 0, .slice none 0 0, .slice none 0 0, .slice none 0 0, .int .i64 0, .bool false] 31)) :=
  ⟨(Below.refl _ _).alloc (Nat.le_refl _) _, Nat.le_refl _, ⟨_, _, _, _, _, [], bk_new (heap_alloc_new w _), by simp, RowV.nil _ _ _, RowV.nil _ _ _, fun k hk => by simp [blks] at hk⟩, fun i hi => absurd hi (by simp)⟩
theorem Ws.apart {w0 w : World} {X : Nat} {c : Nat → Nat} {L : List Wi} (h : Ws w0 X c L w) :
    Calls Tryd.prog 8 #[.pointer (some ⟨X, 2, none⟩), .func (.func 9) #[] #[]] w fun e w' => e = .returned (.bool true) ∧ Below w0.heap.size w0 w' := by
  obtain ⟨A, B, lv, wv, held, E, b, n, ra, rb, ce⟩ := h.rows
  refine (bk_apart b n).mono ?_
  rintro e w' ⟨rfl, k⟩
  refine ⟨rfl, h.below.trans (k.below h.size ?_)⟩
  rintro i _ (rfl | ⟨e, he, hi⟩)
  · exact h.gx
  · exact ((b.ents e he).l.lt i hi).1
end Go.Proofs.YtceljnkbkpgdjaaDoor
