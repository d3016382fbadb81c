/- PagesBytes: what the law holds. Own work. -/
import Derived.Test.YtmkmdcoofngkiaaPgMath
import Derived.Test.YtmkmdcoofngkiaaBkMark
namespace Go.Proofs.Ytmkmdcoofngkiaa
open Go.RowKit Go.Shelf
set_option linter.unusedVariables false
set_option maxHeartbeats 1000000 in
theorem beyond1_no (a : Nat) (g cap : Nat) (w : World) (h : a ≤ 2147483647) (h0 : w.cell? ⟨g, 0, none⟩ = some (.int .i64 a)) :
    Calls Try.prog 17 #[.slice (some ⟨g, 0, none⟩) 1 cap] w fun e w' => e = .returned (.bool false) ∧ w' = w := by
  have HC0 : Hid (w.cell? ⟨g, 0, none⟩ = some (.int .i64 a)) := h0
  clear h0
  go_enter Try.func17, Try.ntmps17
  go_wp2
  go_loop [3, 4] (fun l i => (i = .int .i64 0 ∧ l = .int .i64 2147483647) ∨ i = .int .i64 1) (fun _ i => 1 - (intOf i).toNat)
  case atStart => exact .inl ⟨rfl, rfl⟩
  case round =>
    rcases hrel with ⟨rfl, rfl⟩ | rfl
    · have h0 := HC0.out
      go_wp2
      go_round
      case rel => exact .inr rfl
      case measure => simp [intOf]
    · go_wp2
      go_ret
      exact ⟨rfl, rfl⟩
set_option maxHeartbeats 1000000 in
theorem beyond1_yes (a : Nat) (g cap : Nat) (w : World) (h : 2147483647 < a) (h0 : w.cell? ⟨g, 0, none⟩ = some (.int .i64 a)) :
    Calls Try.prog 17 #[.slice (some ⟨g, 0, none⟩) 1 cap] w fun e w' => e = .returned (.bool true) ∧ w' = w := by
  have HC0 : Hid (w.cell? ⟨g, 0, none⟩ = some (.int .i64 a)) := h0
  clear h0
  go_enter Try.func17, Try.ntmps17
  go_wp2
  go_loop [3, 4] (fun l i => i = .int .i64 0 ∧ l = .int .i64 2147483647) (fun _ i => 1 - (intOf i).toNat)
  case atStart => exact ⟨rfl, rfl⟩
  case round =>
    obtain ⟨rfl, rfl⟩ := hrel
    have h0 := HC0.out
    go_wp2
    go_ret
    exact ⟨rfl, rfl⟩
theorem Bk.aside {w w' : World} {base kb : Nat} {lv wv : Value} {held : Int} {E : List Ent} {S : Nat → Prop} (h : Bk w base kb lv wv held E) (k : Keeps S w w') (hs : ∀ q, S q → ∃ cur t, w.heap[q]? = some (.cells cur t (0, 0)) ∧ t ≠ 57 ∧ t ≠ 52 ∧ t ≠ 5) : Bk w' base kb lv wv held E := by
  have n0 : ¬ S kb := fun hq => by
    obtain ⟨c, t, h1, h2, _⟩ := hs _ hq
    rw [h.blk] at h1
    simp only [Option.some.injEq, Obj.cells.injEq] at h1
    exact h2 h1.2.1.symm
  have n1 : ∀ (v : Value) (vs : List Value), RowV w base 52 v vs → ∀ q, v.ownBlock = some q → ¬ S q := fun v vs hr q hq hS => by
    obtain ⟨c, t, h1, _, h2, _⟩ := hs _ hS
    obtain ⟨d, hd⟩ := hr.tag q hq
    rw [hd] at h1
    simp only [Option.some.injEq, Obj.cells.injEq] at h1
    exact h2 h1.2.1.symm
  have n2 : ∀ (v : Value) (xs : List Nat), Own w base v xs → ∀ q, v.ownBlock = some q → ¬ S q := fun v xs ho q hq hS => by
    obtain ⟨c, t, h1, _, _, h2⟩ := hs _ hS
    obtain ⟨d, hd⟩ := ho.tagB q hq
    rw [hd] at h1
    simp only [Option.some.injEq, Obj.cells.injEq] at h1
    exact h2 h1.2.1.symm
  exact ⟨(k.block kb h.bw.lt n0).trans h.blk, h.lrow.keeps k (n1 _ _ h.lrow), h.wrow.keeps k (n1 _ _ h.wrow), h.ne, fun x hx => ⟨(h.ents x hx).l.keeps k (n2 _ _ (h.ents x hx).l), (h.ents x hx).w.keeps k (n2 _ _ (h.ents x hx).w), (h.ents x hx).sm⟩, h.nodup⟩
theorem Bk.below {w w' : World} {base kb : Nat} {lv wv : Value} {held : Int} {E : List Ent} (h : Bk w base kb lv wv held E) (hb : Below w.heap.size w w') : Bk w' base kb lv wv held E := h.aside (Keeps.of_below (S := fun _ => False) hb) (fun q e => e.elim)
theorem Ke.block' {w w' : World} {base kb q : Nat} {cur : Array Value} {t : TypeId} (k : Ke base kb w w') (h : w.heap[q]? = some (.cells cur t (0, 0))) (hq : q ≠ kb) (ht : t ≠ 52) : w'.heap[q]? = some (.cells cur t (0, 0)) := by
  refine (Keeps.block k q (Array.getElem?_eq_some_iff.1 h).1 (fun hs => ?_)).trans h
  rcases hs with e | ⟨_, c, hc⟩
  · exact hq e
  · rw [h] at hc
    simp only [Option.some.injEq, Obj.cells.injEq] at hc
    exact ht hc.2.1
theorem Ke.low {w w' : World} {base kb : Nat} (k : Ke base kb w w') (hk : base ≤ kb) (hb : base ≤ w.heap.size) : Below base w w' := Keeps.below k hb (fun i _ hs => by
  rcases hs with e | ⟨h, _⟩
  · omega
  · exact h)
/-- while the law makes its own bytes -/
structure Pw (w W : World) (f : Nat → Nat) (kb : Nat) (v : Value) (zs : List Nat) : Prop where
  below : Below w.heap.size w W
  tab : TabAt W w.heap.size f
  kbl : W.heap[kb]? = some (.cells #[.slice none 0 0, .slice none 0 0, .int .i64 0, .bool false] 57 (0, 0))
  own : Own W (kb + 1) v zs
  ge : w.heap.size < kb
theorem Pw.lt {w W : World} {f : Nat → Nat} {kb : Nat} {v : Value} {zs : List Nat} (h : Pw w W f kb v zs) : kb + 1 ≤ W.heap.size := (Array.getElem?_eq_some_iff.1 h.kbl).1
theorem Pw.go {w W W' : World} {f : Nat → Nat} {kb : Nat} {v : Value} {zs : List Nat} (h : Pw w W f kb v zs) (hb : Below W.heap.size W W') : Pw w W' f kb v zs :=
  ⟨h.below.trans (hb.mono h.below.size), h.tab.below hb h.tab.lt, (hb.block _ h.lt).trans h.kbl, h.own.below hb, h.ge⟩
theorem Pw.app {w W w2 : World} {f : Nat → Nat} {kb : Nat} {v v2 : Value} {zs ys : List Nat} (h : Pw w W f kb v zs) (ho : Own w2 (kb + 1) v2 ys) (hg : W.grownBy w2 v.ownBlock) : Pw w w2 f kb v2 ys := by
  have kg := Keeps.of_grown hg
  have hge := h.ge
  have nb : ∀ q, q ≤ kb → ¬ v.ownBlock = some q := fun q hq e => by
    have := (h.own.lt q e).1
    omega
  exact ⟨h.below.trans (kg.below h.below.size (fun i _ e => by have := (h.own.lt i e).1; omega)), (kg.block _ h.tab.lt (nb _ (by omega))).trans h.tab, (kg.block _ h.lt (nb _ (by omega))).trans h.kbl, ho, h.ge⟩
/-- the law's table, its bytes, its book -/
structure Pc (w W : World) (f : Nat → Nat) (kb : Nat) (v : Value) (zs : List Nat) : Prop where
  below : Below w.heap.size w W
  tab : TabAt W w.heap.size f
  bk : ∃ lv wv held E, Bk W w.heap.size kb lv wv held E ∧ E.length ≤ 4000
  own : Own W (kb + 1) v zs
  ge : w.heap.size < kb
theorem Pw.pc {w W : World} {f : Nat → Nat} {kb : Nat} {v : Value} {zs : List Nat} (h : Pw w W f kb v zs) : Pc w W f kb v zs := ⟨h.below, h.tab, ⟨_, _, _, [], bk_new h.kbl, by simp⟩, h.own, h.ge⟩
theorem Pc.go {w W W' : World} {f : Nat → Nat} {kb : Nat} {v : Value} {zs : List Nat} (h : Pc w W f kb v zs) (hb : Below W.heap.size W W') : Pc w W' f kb v zs := by
  obtain ⟨lv, wv, held, E, h1, h2⟩ := h.bk
  exact ⟨h.below.trans (hb.mono h.below.size), h.tab.below hb h.tab.lt, ⟨lv, wv, held, E, h1.below hb, h2⟩, h.own.below hb, h.ge⟩
theorem Pc.kept {w W W' : World} {f : Nat → Nat} {kb : Nat} {v : Value} {zs : List Nat} {lv wv lv' wv' : Value} {held held' : Int} {E E' : List Ent} (h : Pc w W f kb v zs) (h0 : Bk W w.heap.size kb lv wv held E) (hb : Bk W' w.heap.size kb lv' wv' held' E') (hl : E'.length ≤ 4000) (k : Ke w.heap.size kb W W') : Pc w W' f kb v zs :=
  ⟨h.below.trans (k.low (Nat.le_of_lt h.ge) h.below.size), k.block' h.tab (by have := h.ge; omega) (by decide), ⟨_, _, _, _, hb, hl⟩, h.own.ke h0.blk k, h.ge⟩
end Go.Proofs.Ytmkmdcoofngkiaa
