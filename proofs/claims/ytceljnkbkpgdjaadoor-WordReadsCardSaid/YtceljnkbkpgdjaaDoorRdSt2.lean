/- WordReads: a list is kept; a reader more; the start; the end. Own work. -/
import Derived.Test.YtceljnkbkpgdjaaDoorRdSt
namespace Go.Proofs.YtceljnkbkpgdjaaDoor
open Go.RowKit Go.Shelf
set_option linter.unusedVariables false
/-- boxes of steps stay -/
def OpK (w w' : World) : Prop := ∀ (k : Nat) (cur : Array Value), w.heap[k]? = some (.cells cur 36 (0, 0)) → w'.heap[k]? = some (.cells cur 36 (0, 0))
theorem OpK.trans {a b c : World} (h : OpK a b) (k : OpK b c) : OpK a c := fun i cur e => k i cur (h i cur e)
theorem OpK.of_below {w w' : World} (h : Below w.heap.size w w') : OpK w w' := fun i cur e => (h.block i (Array.getElem?_eq_some_iff.1 e).1).trans e
theorem OpK.of_keeps {S : Nat → Prop} {w w' : World} (hk : Keeps S w w') (hS : ∀ k, S k → ¬ Tg w k 36) : OpK w w' := fun i cur e => (hk.block i (Array.getElem?_eq_some_iff.1 e).1 (fun hs => hS i hs ⟨_, e⟩)).trans e
theorem OpK.cell {w w' : World} (h : OpK w w') {k j : Nat} {cur : Array Value} {y : Value} (e : w.heap[k]? = some (.cells cur 36 (0, 0))) (hj : cur[j]? = some y) : w'.cell? ⟨k, j, none⟩ = some y := by
  rw [cell_of_row _ _ _ _ _ _ (h k cur e)]
  exact hj
section
variable {w0 w w' w1 : World} {X : Nat} {v : Value} {zs : List Nat} {L : List Ri} {As Bs As' Bs' : List Value} {A B A' B' : Value}
/-- a step on reader i whose list is kept -/
theorem Rh.tell {i : Nat} {y : Nat × Int} {la : Option Addr} {ln lc : Nat} {xs : List Nat} (h : Rh w0 X v zs L As Bs A B w) (hi : i < L.length) (h1 : Rd w' L[i].p L[i].g zs y.1 y.2) (h2 : Rr w' L[i].r v zs y.1 y.2) (hk : Keeps (fun k => k = L[i].p ∨ k = L[i].r) w w') (hy0 : 0 ≤ y.2) (hy1 : y.2 ≤ 12) (hl : Own w' w.heap.size (.slice la ln lc) xs) (hxs : xs.length ≤ 140737488351232) (hsm : ∀ z ∈ xs, z < 256) :
    Calls Tryd.prog 20 #[.pointer (some ⟨X, 3, none⟩), .slice la ln lc] w' fun e w'' => e = .returned (.tuple #[]) ∧ Rh w0 X v zs (L.set i ⟨L[i].p, L[i].g, L[i].r, y.1, y.2⟩) As Bs A B w'' ∧ OpK w' w'' := by
  have h3 := h.step hi h1 h2 hk hy0 hy1
  obtain ⟨lv, wv, held, E, b, n⟩ := h.rows
  have o := h.ok L[i] (List.getElem_mem hi)
  have tp : Tg w L[i].p 86 := ⟨_, o.rd.1⟩
  have tr : Tg w L[i].r 70 := ⟨_, o.rr.1⟩
  have nt : ∀ k t, Tg w k t → t ≠ 86 → t ≠ 70 → ¬ (k = L[i].p ∨ k = L[i].r) := by
    rintro k t ht n1 n2 (rfl | rfl)
    · exact ht.ne tp n1
    · exact ht.ne tr n2
  have b3 := b.keeps hk (nt X _ ⟨_, b.blk⟩ (by decide) (by decide)) (fun k e => nt k _ (b.lrow.tag k e) (by decide) (by decide)) (fun k e => nt k _ (b.wrow.tag k e) (by decide) (by decide)) (fun k e => nt k _ (b.tagE k e) (by decide) (by decide))
  refine (bk_keep b3 (hl.weak h.size) hxs hsm n h3.size (fun k hk' hm => ?_)).mono ?_
  · have q1 := (hl.lt k hk').1
    have q2 := (b.tagE k hm).lt
    omega
  rintro e w'' ⟨rfl, lv', wv', held', E', b', n', hE', ke⟩
  have ke' : Keeps (KeS w0.heap.size X w') w' w'' := ke
  have kn : ∀ k t, Tg w' k t → t ≠ 45 → t ≠ 34 → ¬ KeS w0.heap.size X w' k := fun k t ht n1 n2 => kes_no b3.blk ht n1 n2
  have kv : zs ≠ [] → ∀ k, v.ownBlock = some k → ¬ KeS w0.heap.size X w' k := by
    rintro hz k hk' (rfl | ⟨hq, _⟩)
    · have := h.vb hz _ hk'; have := h.gx; omega
    · have := h.vb hz _ hk'; omega
  refine ⟨rfl, ⟨h3.below.trans (ke'.below h3.size ?_), h.gx, h3.sl.keepsE ke' kv, h.vb, h.len, ⟨lv', wv', held', E', b', n'⟩, h3.ra.keeps ke' (fun k e => kn k _ (h3.ra.tg k e) (by decide) (by decide)), h3.rb.keeps ke' (fun k e => kn k _ (h3.rb.tg k e) (by decide) (by decide)), fun x hx => ?_, h3.inP, h3.inR⟩, OpK.of_keeps ke' (fun k hs ht => kn k _ ht (by decide) (by decide) hs)⟩
  · rintro q _ (rfl | ⟨hq, _⟩)
    · exact h.gx
    · exact hq
  · have ox := h3.ok x hx
    exact ox.keeps ke' (kn _ _ ⟨_, ox.rd.1⟩ (by decide) (by decide)) (kn _ _ ⟨_, ox.rr.1⟩ (by decide) (by decide)) (kn _ _ ⟨_, ox.rd.2.1⟩ (by decide) (by decide)) kv
/-- the first row grew -/
theorem Rh.appA (h : Rh w0 X v zs L As Bs A B w) (hg : w.grownBy w1 A.ownBlock) (hr : RowV w1 w0.heap.size 48 A' As') :
    Rh w0 X v zs L As' Bs A' B (w1.setCell ⟨X, 1, none⟩ A') ∧ w1.cell? ⟨X, 1, none⟩ = some A ∧ w1.frozen? ⟨X, 1, none⟩ = false ∧ Keeps (fun q => q = X ∨ A.ownBlock = some q) w (w1.setCell ⟨X, 1, none⟩ A') := by
  obtain ⟨lv, wv, held, E, b, n⟩ := h.rows
  have k1 : Keeps (fun q => A.ownBlock = some q) w w1 := Keeps.of_grown hg
  have tA : ∀ q, A.ownBlock = some q → Tg w q 48 := h.ra.tg
  have nt : ∀ q t, Tg w q t → t ≠ 48 → ¬ A.ownBlock = some q := fun q t hq hn e => hq.ne (tA q e) hn
  have b1 := b.keeps k1 (nt X _ ⟨_, b.blk⟩ (by decide)) (fun q hq => nt q _ (b.lrow.tag q hq) (by decide)) (fun q hq => nt q _ (b.wrow.tag q hq) (by decide)) (fun q hq => nt q _ (b.tagE q hq) (by decide))
  have rb1 := h.rb.keeps k1 (fun q hq => nt q _ (h.rb.tg q hq) (by decide))
  have k2 : Keeps (fun q => q = X) w1 (w1.setCell ⟨X, 1, none⟩ A') := Keeps.setCell w1 X 1 A'
  have kk : Keeps (fun q => q = X ∨ A.ownBlock = some q) w (w1.setCell ⟨X, 1, none⟩ A') := (k1.mono (fun _ _ e => Or.inr e)).trans k2 (fun _ _ e => .inl e)
  have nX : ∀ q t, Tg w1 q t → t ≠ 45 → ¬ q = X := fun q t hq hn e => by subst e; exact hq.ne ⟨_, b1.blk⟩ hn
  have blk : (w1.setCell ⟨X, 1, none⟩ A').heap[X]? = some (.cells #[v, A', B, lv, wv, .int .i64 held, .bool false] 45 (0, 0)) := by
    simp [World.setCell, Array.getElem?_modify, b1.blk]
  have tE : ∀ x ∈ E, ∀ q ∈ x.bl, Tg w1 q 5 := fun x hx q hq => b1.tagE q (List.mem_flatMap.2 ⟨x, hx, hq⟩)
  have kv : zs ≠ [] → ∀ k, v.ownBlock = some k → ¬ (k = X ∨ A.ownBlock = some k) := by
    rintro hz k hk' (e | e)
    · have := h.vb hz _ hk'; have := h.gx; omega
    · have := h.vb hz _ hk'; have := (h.ra.lt k e).1; omega
  have no : ∀ q t, Tg w q t → t ≠ 45 → t ≠ 48 → ¬ (q = X ∨ A.ownBlock = some q) := by
    rintro q t ht n1 n2 (e | e)
    · rw [e] at ht; exact ht.ne ⟨_, b.blk⟩ n1
    · exact ht.ne (tA q e) n2
  refine ⟨⟨h.below.trans (kk.below h.size ?_), h.gx, h.sl.keepsE kk kv, h.vb, h.len, ⟨lv, wv, held, E, ⟨blk, b1.lrow.keeps k2 (fun q hq => nX q _ (b1.lrow.tag q hq) (by decide)), b1.wrow.keeps k2 (fun q hq => nX q _ (b1.wrow.tag q hq) (by decide)), b1.ne, fun x hx => (b1.ents x hx).keeps k2 (fun q hq => nX q _ (tE x hx q hq) (by decide)), b1.nodup⟩, n⟩, hr.keeps k2 (fun q hq => nX q _ (hr.tg q hq) (by decide)), rb1.keeps k2 (fun q hq => nX q _ (rb1.tg q hq) (by decide)), fun x hx => ?_, h.inP, h.inR⟩, ?_, b1.thawed 1, kk⟩
  · rintro q _ (rfl | hq)
    · exact h.gx
    · exact (h.ra.lt q hq).1
  · have ox := h.ok x hx
    exact ox.keeps kk (no _ _ ⟨_, ox.rd.1⟩ (by decide) (by decide)) (no _ _ ⟨_, ox.rr.1⟩ (by decide) (by decide)) (no _ _ ⟨_, ox.rd.2.1⟩ (by decide) (by decide)) kv
  · rw [cell_of_row _ _ _ _ _ _ b1.blk]; rfl
/-- the second row grew -/
theorem Rh.appB (h : Rh w0 X v zs L As Bs A B w) (hg : w.grownBy w1 B.ownBlock) (hr : RowV w1 w0.heap.size 49 B' Bs') :
    Rh w0 X v zs L As Bs' A B' (w1.setCell ⟨X, 2, none⟩ B') ∧ w1.cell? ⟨X, 2, none⟩ = some B ∧ w1.frozen? ⟨X, 2, none⟩ = false ∧ Keeps (fun q => q = X ∨ B.ownBlock = some q) w (w1.setCell ⟨X, 2, none⟩ B') := by
  obtain ⟨lv, wv, held, E, b, n⟩ := h.rows
  have k1 : Keeps (fun q => B.ownBlock = some q) w w1 := Keeps.of_grown hg
  have tA : ∀ q, B.ownBlock = some q → Tg w q 49 := h.rb.tg
  have nt : ∀ q t, Tg w q t → t ≠ 49 → ¬ B.ownBlock = some q := fun q t hq hn e => hq.ne (tA q e) hn
  have b1 := b.keeps k1 (nt X _ ⟨_, b.blk⟩ (by decide)) (fun q hq => nt q _ (b.lrow.tag q hq) (by decide)) (fun q hq => nt q _ (b.wrow.tag q hq) (by decide)) (fun q hq => nt q _ (b.tagE q hq) (by decide))
  have ra1 := h.ra.keeps k1 (fun q hq => nt q _ (h.ra.tg q hq) (by decide))
  have k2 : Keeps (fun q => q = X) w1 (w1.setCell ⟨X, 2, none⟩ B') := Keeps.setCell w1 X 2 B'
  have kk : Keeps (fun q => q = X ∨ B.ownBlock = some q) w (w1.setCell ⟨X, 2, none⟩ B') := (k1.mono (fun _ _ e => Or.inr e)).trans k2 (fun _ _ e => .inl e)
  have nX : ∀ q t, Tg w1 q t → t ≠ 45 → ¬ q = X := fun q t hq hn e => by subst e; exact hq.ne ⟨_, b1.blk⟩ hn
  have blk : (w1.setCell ⟨X, 2, none⟩ B').heap[X]? = some (.cells #[v, A, B', lv, wv, .int .i64 held, .bool false] 45 (0, 0)) := by
    simp [World.setCell, Array.getElem?_modify, b1.blk]
  have tE : ∀ x ∈ E, ∀ q ∈ x.bl, Tg w1 q 5 := fun x hx q hq => b1.tagE q (List.mem_flatMap.2 ⟨x, hx, hq⟩)
  have kv : zs ≠ [] → ∀ k, v.ownBlock = some k → ¬ (k = X ∨ B.ownBlock = some k) := by
    rintro hz k hk' (e | e)
    · have := h.vb hz _ hk'; have := h.gx; omega
    · have := h.vb hz _ hk'; have := (h.rb.lt k e).1; omega
  have no : ∀ q t, Tg w q t → t ≠ 45 → t ≠ 49 → ¬ (q = X ∨ B.ownBlock = some q) := by
    rintro q t ht n1 n2 (e | e)
    · rw [e] at ht; exact ht.ne ⟨_, b.blk⟩ n1
    · exact ht.ne (tA q e) n2
  refine ⟨⟨h.below.trans (kk.below h.size ?_), h.gx, h.sl.keepsE kk kv, h.vb, h.len, ⟨lv, wv, held, E, ⟨blk, b1.lrow.keeps k2 (fun q hq => nX q _ (b1.lrow.tag q hq) (by decide)), b1.wrow.keeps k2 (fun q hq => nX q _ (b1.wrow.tag q hq) (by decide)), b1.ne, fun x hx => (b1.ents x hx).keeps k2 (fun q hq => nX q _ (tE x hx q hq) (by decide)), b1.nodup⟩, n⟩, ra1.keeps k2 (fun q hq => nX q _ (ra1.tg q hq) (by decide)), hr.keeps k2 (fun q hq => nX q _ (hr.tg q hq) (by decide)), fun x hx => ?_, h.inP, h.inR⟩, ?_, b1.thawed 2, kk⟩
  · rintro q _ (rfl | hq)
    · exact h.gx
    · exact (h.rb.lt q hq).1
  · have ox := h.ok x hx
    exact ox.keeps kk (no _ _ ⟨_, ox.rd.1⟩ (by decide) (by decide)) (no _ _ ⟨_, ox.rr.1⟩ (by decide) (by decide)) (no _ _ ⟨_, ox.rd.2.1⟩ (by decide) (by decide)) kv
  · rw [cell_of_row _ _ _ _ _ _ b1.blk]; rfl
/-- a reader more -/
theorem Rh.more {p g r m : Nat} (h : Rh w0 X v zs L (L.map ptrD ++ [.pointer (some ⟨p, 0, none⟩)]) (L.map ptrE ++ [.pointer (some ⟨r, 0, none⟩)]) A B w) (hm : ∀ x ∈ L, x.p < m ∧ x.r < m) (hp : m ≤ p) (hr : m ≤ r) (h0 : w0.heap.size ≤ m) (h1 : Rd w p g zs 0 0) (h2 : Rr w r v zs 0 0) : Rh w0 X v zs (L ++ [⟨p, g, r, 0, 0⟩]) ((L ++ [(⟨p, g, r, 0, 0⟩ : Ri)]).map ptrD) ((L ++ [(⟨p, g, r, 0, 0⟩ : Ri)]).map ptrE) A B w := by
  refine ⟨h.below, h.gx, h.sl, h.vb, h.len, h.rows, by rw [List.map_append]; exact h.ra, by rw [List.map_append]; exact h.rb, fun x hx => ?_, ?_, ?_⟩
  · rcases List.mem_append.1 hx with hx | hx
    · exact h.ok x hx
    · rw [List.mem_singleton] at hx
      subst hx
      exact ⟨h1, h2, Nat.le_trans h0 hp, Nat.le_trans h0 hr, Int.le_refl 0, show (0 : Int) ≤ 12 by decide⟩
  · rw [List.map_append]
    refine List.nodup_append.2 ⟨h.inP, by simp, fun a ha b hb e => ?_⟩
    obtain ⟨x, hx, rfl⟩ := List.mem_map.1 ha
    simp only [List.map_cons, List.map_nil, List.mem_singleton] at hb
    have := (hm x hx).1
    omega
  · rw [List.map_append]
    refine List.nodup_append.2 ⟨h.inR, by simp, fun a ha b hb e => ?_⟩
    obtain ⟨x, hx, rfl⟩ := List.mem_map.1 ha
    simp only [List.map_cons, List.map_nil, List.mem_singleton] at hb
    have := (hm x hx).2
    omega
theorem Rh.lt (h : Rh w0 X v zs L As Bs A B w) : ∀ x ∈ L, x.p < w.heap.size ∧ x.r < w.heap.size := fun x hx => ⟨(h.ok x hx).rd.lt, (h.ok x hx).rr.lt⟩
/-- the start: no reader, an empty book -/
theorem Rh.start (hs : Sl w v zs) (hz : zs.length ≤ 2147483647) (hv : zs ≠ [] → ∀ k, v.ownBlock = some k → k < w.heap.size) : Rh w w.heap.size v zs [] [] [] (.slice none 0 0) (.slice none 0 0) (w.alloc (.cells #[v, .slice none 0 0, .slice none 0 0, .slice none 0 0, .slice none 0 0, .int .i64 0, .bool false] 45)) := by
  have hb : Below w.heap.size w (w.alloc (.cells #[v, .slice none 0 0, .slice none 0 0, .slice none 0 0, .slice none 0 0, .int .i64 0, .bool false] 45)) := (Below.refl _ _).alloc (Nat.le_refl _) _
  exact ⟨hb, Nat.le_refl _, hs.below hb, hv, hz, ⟨_, _, _, [], bk_new (heap_alloc_new w _), by simp⟩, RowV.nil _ _ _, RowV.nil _ _ _, fun x hx => by simp at hx, by simp, by simp⟩
theorem Rh.apart (h : Rh w0 X v zs L As Bs A B w) :
    Calls Tryd.prog 8 #[.pointer (some ⟨X, 3, none⟩), .func (.func 9) #[] #[]] w fun e w' => e = .returned (.bool true) ∧ Below w0.heap.size w0 w' := by
  obtain ⟨lv, wv, held, E, b, n⟩ := h.rows
  refine (bk_apart b n).mono ?_
  rintro e w' ⟨rfl, k⟩
  refine ⟨rfl, h.below.trans (k.below h.size ?_)⟩
  rintro i _ (rfl | ⟨e, he, hi⟩)
  · exact h.gx
  · exact ((b.ents e he).l.lt i hi).1
end
end Go.Proofs.YtceljnkbkpgdjaaDoor
