/- Where a lexeme is ahead: what was asked for. Own work. -/
import Derived.Test.YtmkibolkcjallaaGreatDoorSyRef2
namespace Go.Proofs.YtmkibolkcjallaaGreatDoor
open Go.RowKit
/-- what a reader of lexemes leaves as it was -/
structure Mv (pb base : Nat) (w w' : World) : Prop where
  keeps : Keeps (fun k => k = pb ∨ base ≤ k) w w'
  stay : ∀ k c t z, k ≠ pb → t ≠ 9 → w.heap[k]? = some (.cells c t z) → w'.heap[k]? = some (.cells c t z)
theorem Mv.refl (pb base : Nat) (w : World) : Mv pb base w w := ⟨Keeps.refl _ _, fun _ _ _ _ _ _ h => h⟩
theorem Mv.trans {pb base : Nat} {a b c : World} (h : Mv pb base a b) (k : Mv pb base b c) : Mv pb base a c := ⟨h.keeps.trans k.keeps (fun _ _ h => h), fun i d t z h1 h2 h3 => k.stay i d t z h1 h2 (h.stay i d t z h1 h2 h3)⟩
theorem Mv.alloc {pb base : Nat} {a b : World} (h : Mv pb base a b) (o : Obj) : Mv pb base a (b.alloc o) := h.trans ⟨Keeps.alloc b o, fun k _ _ _ _ _ hk => (Below.heap_alloc b o k (Array.getElem?_eq_some_iff.1 hk).1).trans hk⟩
theorem Mv.drew {pb base : Nat} {a b : World} (h : Mv pb base a b) : Mv pb base a b.drew := ⟨h.keeps.drew, h.stay⟩
theorem OwnS.tag {w : World} {base : Nat} {v : Value} {ss : List ByteArray} (h : OwnS w base v ss) : ∀ k, v.ownBlock = some k → ∃ cur, w.heap[k]? = some (.cells cur 9 (0, 0)) := by
  intro k hk
  rcases h.2 with ⟨rfl, _⟩ | ⟨g, cap, cur, rfl, hb, hg, r⟩
  · cases hk
  · cases hk
    exact ⟨cur, hg⟩
theorem Mv.of {pb base : Nat} {w w' : World} {v : Value} {ss : List ByteArray} (h : OwnS w base v ss) (k : Keeps (fun k => k = pb ∨ v.ownBlock = some k) w w') : Mv pb base w w' := by
  refine ⟨k.mono (fun i _ hi => hi.imp id (fun e => (h.lt i e).1)), fun i c t z h1 h2 h3 => (k.block i (Array.getElem?_eq_some_iff.1 h3).1 ?_).trans h3⟩
  rintro (e | e)
  · exact h1 e
  · obtain ⟨cur, hc⟩ := h.tag i e
    rw [h3] at hc
    simp only [Option.some.injEq, Obj.cells.injEq] at hc
    exact h2 hc.2.1
/-- a lexeme is ahead: where it stands, what was asked for -/
structure Lx (w : World) (pb base b o cap n g off m lc p q : Nat) (par : Par) (ws : List ByteArray) (zs : List Nat) : Prop where
  parB : ParB w pb par
  next : NextAt w par b o cap n g off m lc p q
  sl : Sl w (.slice (some ⟨b, o + p, none⟩) (q - p) (cap - p)) zs
  apart : g ≠ pb ∧ b ≠ pb
  own : OwnS w base par.words ws
  low : pb < base ∧ g < base ∧ b < base
  top : base ≤ w.heap.size
theorem Lx.words_ne {w : World} {pb base b o cap n g off m lc p q : Nat} {par : Par} {ws : List ByteArray} {zs : List Nat} (h : Lx w pb base b o cap n g off m lc p q par ws zs) : par.words.ownBlock ≠ some g ∧ par.words.ownBlock ≠ some b ∧ par.words.ownBlock ≠ some pb :=
  ⟨fun e => by have := h.own.lt _ e; have := h.low; omega, fun e => by have := h.own.lt _ e; have := h.low; omega, fun e => by have := h.own.lt _ e; have := h.low; omega⟩
theorem NextAt.keeps {S : Nat → Prop} {w w' : World} {par : Par} {b o cap n g off m lc p q : Nat} (h : NextAt w par b o cap n g off m lc p q) (hk : Keeps S w w') (hg : ¬ S g) : NextAt w' par b o cap n g off m lc p q := by
  have hlt := World.block_lt_of_cell? w _ h.at_
  have hc : ∀ i, w'.cell? ⟨g, i, none⟩ = w.cell? ⟨g, i, none⟩ := fun i => World.cell?_of_block (a := ⟨g, i, none⟩) (hk.block g hlt hg)
  exact ⟨h.src, h.list, h.some_, h.pq, h.qn, h.nc, (hc _).trans h.at_, (hc _).trans h.end_⟩
theorem NextAt.words {w : World} {par : Par} {b o cap n g off m lc p q : Nat} (h : NextAt w par b o cap n g off m lc p q) (v : Value) : NextAt w { par with words := v } b o cap n g off m lc p q := ⟨h.src, h.list, h.some_, h.pq, h.qn, h.nc, h.at_, h.end_⟩
theorem Lx.alloc {w : World} {pb base b o cap n g off m lc p q : Nat} {par : Par} {ws : List ByteArray} {zs : List Nat} (h : Lx w pb base b o cap n g off m lc p q par ws zs) (x : Obj) : Lx (w.alloc x) pb base b o cap n g off m lc p q par ws zs := by
  have k : Keeps (fun _ => False) w (w.alloc x) := Keeps.alloc w x
  exact ⟨h.parB.keeps k id, h.next.keeps k id, h.sl.keeps k (fun _ _ => id), h.apart, h.own.keeps k (fun _ _ => id), h.low, Nat.le_trans h.top (by simp)⟩
theorem Lx.drew {w : World} {pb base b o cap n g off m lc p q : Nat} {par : Par} {ws : List ByteArray} {zs : List Nat} (h : Lx w pb base b o cap n g off m lc p q par ws zs) : Lx w.drew pb base b o cap n g off m lc p q par ws zs := by
  have k : Keeps (fun _ => False) w w.drew := (Keeps.refl _ _).drew
  exact ⟨h.parB.keeps k id, h.next.keeps k id, h.sl.keeps k (fun _ _ => id), h.apart, h.own.keeps k (fun _ _ => id), h.low, h.top⟩
/-- takes, where another lexeme is ahead -/
theorem takes_no {w : World} {pb base b o cap n g off m lc p q : Nat} {par : Par} {ws : List ByteArray} {zs : List Nat} (t : ByteArray) (h : Lx w pb base b o cap n g off m lc p q par ws zs) (hzt : mkS zs ≠ t) (hl : ws.length ≤ 1000) :
    Calls Tryz.prog 27 #[.pointer (some ⟨pb, 0, none⟩), .string t] w fun e w' => e = .returned (.bool false) ∧ ∃ wv, Lx w' pb base b o cap n g off m lc p q { par with words := wv } (ws ++ [t]) zs ∧ Mv pb base w w' := by
  have hn := h.words_ne
  refine (takes_other t h.parB h.next h.sl ⟨h.apart.1, h.apart.2, hn.1, hn.2.1⟩ hzt h.own hn.2.2 hl h.top).mono ?_
  rintro e w' ⟨rfl, wv, h1, h2, h3, h4⟩
  have hg : ¬ (g = pb ∨ par.words.ownBlock = some g) := fun k => k.elim h.apart.1 hn.1
  have hb : ¬ (b = pb ∨ par.words.ownBlock = some b) := fun k => k.elim h.apart.2 hn.2.1
  exact ⟨rfl, wv, ⟨h1, (h.next.keeps h4 hg).words wv, h.sl.keeps h4 (fun k hk => by cases hk; exact hb), h.apart, h2, h.low, Nat.le_trans h.top h4.size⟩, Mv.of h.own h4⟩
/-- refuse, where a lexeme is ahead and no name was asked for -/
theorem refuse_at {w : World} {pb base b o cap n g off m lc p q : Nat} {par : Par} {ws : List ByteArray} {zs : List Nat} (h : Lx w pb base b o cap n g off m lc p q par ws zs) (hwb : ∀ s ∈ ws, s.size ≤ 1048576) (hzl : zs.length ≤ 1048576) (hwl : ws.length ≤ 1000) (hpl : p ≤ 1048576) (hnm : par.naming = false) :
    Calls Tryz.prog 28 #[.pointer (some ⟨pb, 0, none⟩)] w fun e w' => e = stopE 60 ∧ ParB w' pb { par with wrong := (p : Int) + (rightN ws zs : Nat), why := 60 } ∧ Mv pb base w w' := by
  refine (refuse_some h.parB h.next h.sl h.own hwb hzl hwl hpl hnm).mono ?_
  rintro e w' ⟨rfl, h1, h2⟩
  refine ⟨rfl, h1, h2.mono (fun _ _ => .inl), fun k c t z hk _ hh => (h2.block k (Array.getElem?_eq_some_iff.1 hh).1 hk).trans hh⟩
end Go.Proofs.YtmkibolkcjallaaGreatDoor
