/- Rows of sets and of points: what is in them, appends. Own work. -/
import Derived.Test.YtogcpogoamoljaaSpTold
import Derived.Test.YtogcpogoamoljaaSpMade
import Derived.Test.YtogcpogoamoljaaSpWithU8
import Derived.Test.YtogcpogoamoljaaSpManyU8
import Derived.Great.BuildSlice
import Derived.Laws.StructEq
namespace Go.Proofs.Ytogcpogoamoljaa
open Go.RowKit Go.Shelf Go.Proofs.Ytogcpogoamoljaa.Sp Go.Proofs.Ytogcpogoamoljaa.U8
/-- the points are the set's -/
def Pts (f : Nat → Bool) (xs : List Sp) : Prop := ∀ q : Nat, q < 256 → (f q = true ↔ In q xs)
/-- a set that was made: its value, its row, its points -/
structure Ent where
  v : Value
  xs : List Sp
  f : Nat → Bool
def flat (L : List Ent) : List Value := L.flatMap fun e => (ptsV e.f).toList
theorem flat_append (L M : List Ent) : flat (L ++ M) = flat L ++ flat M := by simp [flat]
theorem flat_length (L : List Ent) : (flat L).length = L.length * 256 := by
  induction L with
  | nil => rfl
  | cons e L ih =>
    rw [show flat (e :: L) = (ptsV e.f).toList ++ flat L from rfl, List.length_append, ih, Array.length_toList, ptsV_size, List.length_cons]
    omega
theorem flat_get : ∀ (L : List Ent) (i : Nat) (h : i < L.length) (j : Nat), j < 256 → (flat L)[i * 256 + j]? = some (.bool (L[i].f j))
  | e :: L, 0, _, j, hj => by
    rw [show flat (e :: L) = (ptsV e.f).toList ++ flat L from rfl, List.getElem?_append_left (by rw [Array.length_toList, ptsV_size]; omega), Array.getElem?_toList, Nat.zero_mul, Nat.zero_add, ptsV_get _ hj]
    rfl
  | e :: L, i + 1, h, j, hj => by
    have ih := flat_get L i (by simpa using h) j hj
    rw [show flat (e :: L) = (ptsV e.f).toList ++ flat L from rfl, List.getElem?_append_right (by rw [Array.length_toList, ptsV_size]; omega), Array.length_toList, ptsV_size, show (i + 1) * 256 + j - 256 = i * 256 + j by omega, ih]
    rfl
def RowS (W : World) (base : Nat) (v : Value) (L : List Ent) : Prop := W.ownsRow base 25 1 v L.length (L.map Ent.v)
def RowI (W : World) (base : Nat) (v : Value) (L : List Ent) : Prop := W.ownsRow base 33 256 v L.length (flat L)
/-- what ownsRow asks of the heap -/
theorem owns_keep {w w' : World} {base e size : Nat} {v : Value} {n : Nat} {xs : List Value} (h : w.ownsRow base e size v n xs) (hk : ∀ g cur, w.heap[g]? = some (.cells cur e (0, 0)) → v.ownBlock = some g → w'.heap[g]? = w.heap[g]?) : w'.ownsRow base e size v n xs := by
  refine ⟨h.1, ?_⟩
  rcases h.2 with h0 | ⟨g, cap, cur, e, hb, hg, r⟩
  · exact .inl h0
  · exact .inr ⟨g, cap, cur, e, hb, (hk g cur hg (by rw [e]; rfl)).trans hg, r⟩
theorem owns_below {w w' : World} {base e size : Nat} {v : Value} {n : Nat} {xs : List Value} (h : w.ownsRow base e size v n xs) (hb : Below w.heap.size w w') : w'.ownsRow base e size v n xs :=
  owns_keep h (fun g _ hg _ => hb.block g (Array.getElem?_eq_some_iff.1 hg).1)
/-- a row that is not empty -/
theorem owns_some {w : World} {base e size : Nat} {v : Value} {n : Nat} {xs : List Value} (h : w.ownsRow base e size v n xs) (hn : 0 < n) : ∃ g cap, v = .slice (some ⟨g, 0, none⟩) n cap ∧ g < w.heap.size ∧ base ≤ g ∧ n ≤ cap ∧ cap ≤ maxLen ∧ (∀ j u, xs[j]? = some u → w.cell? ⟨g, j, none⟩ = some u) ∧ ∃ cur, w.heap[g]? = some (.cells cur e (0, 0)) := by
  rcases h.2 with ⟨_, h0⟩ | ⟨g, cap, cur, rfl, hb, hg, h1, h2, h3, h4⟩
  · omega
  · refine ⟨g, cap, rfl, (Array.getElem?_eq_some_iff.1 hg).1, hb, h1, h2, fun j u hj => ?_, cur, hg⟩
    rw [cell_of_row _ _ j _ _ _ hg, ← Array.getElem?_toList]
    have hl : j < n * size := by rw [← h.1]; exact (List.getElem?_eq_some_iff.1 hj).1
    rw [← h4, List.getElem?_take_of_lt hl] at hj
    exact hj
/-- all that was made so far -/
def Good (W : World) (base : Nat) (e : Ent) : Prop := Own W base e.v e.xs ∧ Canon 255 e.xs ∧ Pts e.f e.xs
def PS (w W : World) (vs vi : Value) (L : List Ent) : Prop := RowS W w.heap.size vs L ∧ RowI W w.heap.size vi L ∧ (∀ e ∈ L, Good W w.heap.size e) ∧ Below w.heap.size w W
theorem Good.below {W W' : World} {base : Nat} {e : Ent} (h : Good W base e) (hb : Below W.heap.size W W') : Good W' base e := ⟨h.1.below hb (Nat.le_refl _), h.2⟩
theorem PS.below {w W W' : World} {vs vi : Value} {L : List Ent} (h : PS w W vs vi L) (hb : Below W.heap.size W W') : PS w W' vs vi L :=
  ⟨owns_below h.1 hb, owns_below h.2.1 hb, fun e he => (h.2.2.1 e he).below hb, h.2.2.2.trans (hb.mono h.2.2.2.size)⟩
theorem info_set : (Try.prog.info? 25).map (fun i => (i.zero, i.size, i.bytes)) = some (some (.agg #[.slice none 0 0]), 1, 24) := by kernel_rfl
theorem info_pts : (Try.prog.info? 33).map (fun i => (i.zero, i.size, i.bytes)) = some (some (.agg (ptsV fun _ => false)), 256, 256) := by kernel_rfl
theorem grown_block {w w' : World} {row : Option Nat} (h : w.grownBy w' row) {g : Nat} (hg : g < w.heap.size) (hr : row ≠ some g) : w'.heap[g]? = w.heap[g]? := h.block g hg (fun e => hr e.symm)
theorem Good.grown {W W' : World} {base : Nat} {e : Ent} {row : Option Nat} {t : TypeId} (h : Good W base e) (hg : W.grownBy W' row) (ht : ∀ k, row = some k → ∃ cur, W.heap[k]? = some (.cells cur t (0, 0))) (hn : t ≠ 28) : Good W' base e := by
  refine ⟨owns_keep h.1 (fun g cur hc _ => grown_block hg (Array.getElem?_eq_some_iff.1 hc).1 (fun hr => ?_)), h.2⟩
  obtain ⟨cur', hc'⟩ := ht g hr
  rw [hc] at hc'
  simp only [Option.some.injEq, Obj.cells.injEq] at hc'
  exact hn hc'.2.1.symm
theorem owns_tag {w : World} {base e size : Nat} {v : Value} {n : Nat} {xs : List Value} (h : w.ownsRow base e size v n xs) : ∀ k, v.ownBlock = some k → ∃ cur, w.heap[k]? = some (.cells cur e (0, 0)) := by
  intro k hk
  rcases h.2 with ⟨rfl, _⟩ | ⟨g, cap, cur, rfl, hb, hg, r⟩
  · cases hk
  · cases hk
    exact ⟨cur, hg⟩
theorem owns_grown {W W' : World} {base e size t : Nat} {v : Value} {n : Nat} {xs : List Value} {row : Option Nat} (h : W.ownsRow base e size v n xs) (hg : W.grownBy W' row) (ht : ∀ k, row = some k → ∃ cur, W.heap[k]? = some (.cells cur t (0, 0))) (hn : t ≠ e) : W'.ownsRow base e size v n xs := by
  refine owns_keep h (fun g cur hc _ => grown_block hg (Array.getElem?_eq_some_iff.1 hc).1 (fun hr => ?_))
  obtain ⟨cur', hc'⟩ := ht g hr
  rw [hc] at hc'
  simp only [Option.some.injEq, Obj.cells.injEq] at hc'
  exact hn hc'.2.1.symm
theorem below_grown {w W W' : World} {e size : Nat} {v : Value} {n : Nat} {xs : List Value} (hb : Below w.heap.size w W) (h : W.ownsRow w.heap.size e size v n xs) (hg : W.grownBy W' v.ownBlock) : Below w.heap.size w W' :=
  hb.grown hg hb.size (fun k hk => by
    rcases h.2 with ⟨rfl, _⟩ | ⟨g, cap, cur, rfl, hb', _⟩
    · cases hk
    · cases hk; exact hb')
/-- append of a set -/
theorem run_appS {W : World} {base : Nat} {v : Value} {L : List Ent} {e : Ent} {g cap : Nat} (ty : TypeId) (h : RowS W base v L) (h0 : W.cell? ⟨g, 0, none⟩ = some e.v) (h1 : e.v.oneCell' = true) (hl : L.length ≤ 100) (hbase : base ≤ W.heap.size) :
    ∃ v' w', (Builtin.append_ #[31, 31] ty #[v, .slice (some ⟨g, 0, none⟩) 1 cap]).run Try.prog W = .ok v' w' ∧ RowS w' base v' (L ++ [e]) ∧ W.grownBy w' v.ownBlock := by
  obtain ⟨i, hi, hz0, hz1, hz2⟩ := info_parts info_set
  obtain ⟨v', w', a1, a2, a3, _⟩ := run_append_own_at (P := Try.prog) W base 31 ty 25 i (.agg #[.slice none 0 0]) 1 24 Try.underlying31 hi hz0 hz1 hz2 rfl (by omega) v L.length (L.map Ent.v) h ⟨g, 0, none⟩ 1 cap [e.v] rfl (fun j u hj => by
    rw [Addr.add_lit, Nat.zero_add]
    match j, hj with
    | 0, hj => rw [h0]; exact hj) (by intro u hu; obtain rfl := List.mem_singleton.1 hu; exact h1) (by unfold maxLen; omega) (by omega) hbase
  refine ⟨v', w', a1, ?_, a3⟩
  unfold RowS
  rw [List.length_append, List.map_append]
  exact a2
/-- append of points -/
theorem run_appI {W : World} {base : Nat} {v : Value} {L : List Ent} {e : Ent} {g cap : Nat} (ty : TypeId) (h : RowI W base v L) (h0 : PtsAt W g e.f) (hl : L.length ≤ 100) (hbase : base ≤ W.heap.size) :
    ∃ v' w', (Builtin.append_ #[35, 35] ty #[v, .slice (some ⟨g, 0, none⟩) 1 cap]).run Try.prog W = .ok v' w' ∧ RowI w' base v' (L ++ [e]) ∧ W.grownBy w' v.ownBlock := by
  obtain ⟨i, hi, hz0, hz1, hz2⟩ := info_parts info_pts
  obtain ⟨v', w', a1, a2, a3, _⟩ := run_append_own_at (P := Try.prog) W base 35 ty 33 i (.agg (ptsV fun _ => false)) 256 256 Try.underlying35 hi hz0 hz1 hz2 (ptsV_size _) (by omega) v L.length (flat L) h ⟨g, 0, none⟩ 1 cap (ptsV e.f).toList (by rw [Array.length_toList, ptsV_size]) (fun j u hj => by
    have hj' : j < 256 := by have := (List.getElem?_eq_some_iff.1 hj).1; rwa [Array.length_toList, ptsV_size] at this
    rw [Addr.add_lit, Nat.zero_add, h0.cell hj']
    rw [Array.getElem?_toList, ptsV_get _ hj'] at hj
    exact hj) (by intro u hu; exact (Array.all_eq_true_iff_forall_mem.1 (ptsV_one e.f)) u (by simpa using hu)) (by unfold maxLen; omega) (by omega) hbase
  refine ⟨v', w', a1, ?_, a3⟩
  unfold RowI
  rw [List.length_append, flat_append, show flat [e] = (ptsV e.f).toList by simp [flat]]
  exact a2
end Go.Proofs.Ytogcpogoamoljaa
