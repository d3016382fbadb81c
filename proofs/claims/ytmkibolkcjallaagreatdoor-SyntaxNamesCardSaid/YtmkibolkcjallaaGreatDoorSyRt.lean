/- A text whose lexemes are read one by one. Own work. -/
import Derived.Test.YtmkibolkcjallaaGreatDoorSyInner
namespace Go.Proofs.YtmkibolkcjallaaGreatDoor
open Go.RowKit Sc
/-- the lexemes' cells -/
def TkC (w : World) (g : Nat) (ts : List Tok) : Prop := g < w.heap.size ∧ ∀ i (h : i < ts.length), w.cell? ⟨g, i * 5, none⟩ = some (.int .i64 (ts[i].kind : Int)) ∧ w.cell? ⟨g, i * 5 + 1, none⟩ = some (.int .u64 (ts[i].n : Int)) ∧ w.cell? ⟨g, i * 5 + 2, none⟩ = some (.string (mkS ts[i].s)) ∧ w.cell? ⟨g, i * 5 + 3, none⟩ = some (.int .i64 (ts[i].at_ : Int)) ∧ w.cell? ⟨g, i * 5 + 4, none⟩ = some (.int .i64 (ts[i].end_ : Int))
theorem TkC.keeps {S : Nat → Prop} {w w' : World} {g : Nat} {ts : List Tok} (h : TkC w g ts) (hk : Keeps S w w') (hg : ¬ S g) : TkC w' g ts := by
  have hc : ∀ i, w'.cell? ⟨g, i, none⟩ = w.cell? ⟨g, i, none⟩ := fun i => World.cell?_of_block (a := ⟨g, i, none⟩) (hk.block g h.1 hg)
  refine ⟨Nat.lt_of_lt_of_le h.1 hk.size, fun i hi => ?_⟩
  obtain ⟨a, b, c, d, e⟩ := h.2 i hi
  exact ⟨(hc _).trans a, (hc _).trans b, (hc _).trans c, (hc _).trans d, (hc _).trans e⟩
/-- k lexemes of the text were read -/
structure Rt (w : World) (pb base b o cap g lc : Nat) (zs : List Nat) (ts : List Tok) (k : Nat) (par : Par) (ws : List ByteArray) : Prop where
  parB : ParB w pb par
  src : par.src = .slice (some ⟨b, o, none⟩) zs.length cap
  sl : Sl w (.slice (some ⟨b, o, none⟩) zs.length cap) zs
  tk : TkC w g ts
  list : k < ts.length → par.list = .slice (some ⟨g, k * 5, none⟩) (ts.length - k) (lc - k)
  done : k = ts.length → ∃ a c, par.list = .slice a 0 c
  room : ts.length ≤ lc
  apart : g ≠ pb ∧ b ≠ pb
  own : OwnS w base par.words ws
  low : pb < base ∧ g < base ∧ b < base
  top : base ≤ w.heap.size
  cap_ : zs.length ≤ cap
/-- a lexeme's bytes -/
def lexB (zs : List Nat) (t : Tok) : List Nat := (zs.drop t.at_).take (t.end_ - t.at_)
theorem Rt.lx {w : World} {pb base b o cap g lc : Nat} {zs : List Nat} {ts : List Tok} {k : Nat} {par : Par} {ws : List ByteArray} (h : Rt w pb base b o cap g lc zs ts k par ws) (hk : k < ts.length) (hp : ts[k].at_ < ts[k].end_) (hq : ts[k].end_ ≤ zs.length) :
    Lx w pb base b o cap zs.length g (k * 5) (ts.length - k) (lc - k) ts[k].at_ ts[k].end_ par ws (lexB zs ts[k]) := by
  obtain ⟨_, _, _, c3, c4⟩ := h.tk.2 k hk
  refine ⟨h.parB, ⟨h.src, h.list hk, by omega, hp, hq, h.cap_, c3, c4⟩, ?_, h.apart, h.own, h.low, h.top⟩
  exact h.sl.cut ts[k].at_ (ts[k].end_ - ts[k].at_) (by omega)
theorem Rt.of {w w' : World} {pb base b o cap g lc : Nat} {zs : List Nat} {ts : List Tok} {k k' : Nat} {par par' : Par} {ws ws' : List ByteArray} (h : Rt w pb base b o cap g lc zs ts k par ws) (hm : Mv pb base w w') (hp : ParB w' pb par') (hs : par'.src = par.src) (hl : k' < ts.length → par'.list = .slice (some ⟨g, k' * 5, none⟩) (ts.length - k') (lc - k')) (hd : k' = ts.length → ∃ a c, par'.list = .slice a 0 c) (ho : OwnS w' base par'.words ws') : Rt w' pb base b o cap g lc zs ts k' par' ws' := by
  have hg : ¬ (g = pb ∨ base ≤ g) := fun e => e.elim h.apart.1 (fun e => by have := h.low; omega)
  have hb : ¬ (b = pb ∨ base ≤ b) := fun e => e.elim h.apart.2 (fun e => by have := h.low; omega)
  exact ⟨hp, hs.trans h.src, h.sl.keeps hm.keeps (fun k hk => by cases hk; exact hb), h.tk.keeps hm.keeps hg, hl, hd, h.room, h.apart, ho, h.low, Nat.le_trans h.top hm.keeps.size, h.cap_⟩
theorem tailV_list {g k m lc : Nat} (_hk : k < m) (hr : m ≤ lc) : (k + 1 < m → tailV g (k * 5) (m - k) (lc - k) = .slice (some ⟨g, (k + 1) * 5, none⟩) (m - (k + 1)) (lc - (k + 1))) ∧ (k + 1 = m → ∃ a c, tailV g (k * 5) (m - k) (lc - k) = .slice a 0 c) := by
  unfold tailV
  refine ⟨fun h => ?_, fun h => ?_⟩
  · rw [if_neg (by omega), show (k + 1) * 5 = k * 5 + 5 by omega, show m - k - 1 = m - (k + 1) by omega, show lc - k - 1 = lc - (k + 1) by omega]
  · split
    · exact ⟨_, _, rfl⟩
    · exact ⟨some ⟨g, k * 5 + 5, none⟩, lc - k - 1, by rw [show m - k - 1 = 0 by omega]⟩
/-- the parser behind the next lexeme -/
def Par.past (par : Par) (t : Tok) (v wv : Value) : Par := { par with list := v, kind := (t.kind : Int), n := (t.n : Int), s := mkS t.s, at_ := (t.at_ : Int), till := (t.end_ : Int), words := wv, naming := false, open_ := openN (t.kind : Int) par.open_ }
theorem takes_yes {w : World} {pb base b o cap g lc : Nat} {zs : List Nat} {ts : List Tok} {k : Nat} {par : Par} {ws : List ByteArray} (t : ByteArray) (h : Rt w pb base b o cap g lc zs ts k par ws) (hk : k < ts.length) (hp : ts[k].at_ < ts[k].end_) (hq : ts[k].end_ ≤ zs.length) (hzt : mkS (lexB zs ts[k]) = t) (ho : 0 ≤ par.open_ ∧ par.open_ ≤ 1000) (ho2 : openN (ts[k].kind : Int) par.open_ ≤ 32) (hl : ws.length ≤ 1000) :
    Calls Tryz.prog 27 #[.pointer (some ⟨pb, 0, none⟩), .string t] w fun e w' => e = .returned (.bool true) ∧ ∃ v wv, Rt w' pb base b o cap g lc zs ts (k + 1) (par.past ts[k] v wv) [] ∧ Mv pb base w w' := by
  have hx := h.lx hk hp hq
  have hn := hx.words_ne
  obtain ⟨c0, c1, c2, _, _⟩ := h.tk.2 k hk
  have ht := tailV_list (g := g) hk h.room
  refine (takes_this t h.parB hx.next hx.sl ⟨h.apart.1, h.apart.2, hn.1, hn.2.1⟩ hzt (by have := h.room; omega) c0 c1 c2 ho ho2 h.own hn.2.2 hl h.top).mono ?_
  rintro e w' ⟨rfl, wv, h1, h2, h3, h4⟩
  have hm := Mv.of h.own h4
  exact ⟨rfl, _, wv, h.of hm h1 rfl ht.1 ht.2 h2, hm⟩
theorem needs_yes {w : World} {pb base b o cap g lc : Nat} {zs : List Nat} {ts : List Tok} {k : Nat} {par : Par} {ws : List ByteArray} (t : ByteArray) (h : Rt w pb base b o cap g lc zs ts k par ws) (hk : k < ts.length) (hp : ts[k].at_ < ts[k].end_) (hq : ts[k].end_ ≤ zs.length) (hzt : mkS (lexB zs ts[k]) = t) (ho : 0 ≤ par.open_ ∧ par.open_ ≤ 1000) (ho2 : openN (ts[k].kind : Int) par.open_ ≤ 32) (hl : ws.length ≤ 1000) :
    Calls Tryz.prog 15 #[.pointer (some ⟨pb, 0, none⟩), .string t] w fun e w' => e = .returned (.tuple #[]) ∧ ∃ v wv, Rt w' pb base b o cap g lc zs ts (k + 1) (par.past ts[k] v wv) [] ∧ Mv pb base w w' := by
  have hx := h.lx hk hp hq
  have hn := hx.words_ne
  obtain ⟨c0, c1, c2, _, _⟩ := h.tk.2 k hk
  have ht := tailV_list (g := g) hk h.room
  refine (needs_this t h.parB hx.next hx.sl ⟨h.apart.1, h.apart.2, hn.1, hn.2.1⟩ hzt (by have := h.room; omega) c0 c1 c2 ho ho2 h.own hn.2.2 hl h.top).mono ?_
  rintro e w' ⟨rfl, wv, h1, h2, h3, h4⟩
  have hm := Mv.of h.own h4
  exact ⟨rfl, _, wv, h.of hm h1 rfl ht.1 ht.2 h2, hm⟩
theorem word_yes {w : World} {pb base b o cap g lc : Nat} {zs : List Nat} {ts : List Tok} {k : Nat} {par : Par} {ws : List ByteArray} (h : Rt w pb base b o cap g lc zs ts k par ws) (hk : k < ts.length) (hkind : ts[k].kind = 1) (ho : 0 ≤ par.open_ ∧ par.open_ ≤ 32) :
    Calls Tryz.prog 16 #[.pointer (some ⟨pb, 0, none⟩)] w fun e w' => e = .returned (refV (mkS ts[k].s) (ts[k].at_ : Int) (.slice none 0 0)) ∧ ∃ v wv, Rt w' pb base b o cap g lc zs ts (k + 1) (par.past ts[k] v wv) [] ∧ Mv pb base w w' := by
  obtain ⟨c0, c1, c2, c3, c4⟩ := h.tk.2 k hk
  rw [hkind] at c0
  obtain ⟨wa, wc, hw⟩ := h.own.form
  have ht := tailV_list (g := g) hk h.room
  refine (word_this h.parB (h.list hk) (by omega) (by have := h.room; omega) hw h.apart.1 c0 c1 c2 c3 c4 ho).mono ?_
  rintro e w' ⟨rfl, h1, h2⟩
  have hm : Mv pb base w w' := ⟨h2.mono (fun _ _ => .inl), fun i c t z hi _ hh => (h2.block i (Array.getElem?_eq_some_iff.1 hh).1 hi).trans hh⟩
  have ho' : OwnS w' base (.slice wa 0 wc) [] := by
    have := h.own
    rw [hw] at this
    exact (this.keeps h2 (fun i hi e => by have := h.own.lt i (by rw [hw]; exact hi); have := h.low; omega)).empty
  have e : { par with list := tailV g (k * 5) (ts.length - k) (lc - k), kind := 1, n := (ts[k].n : Int), s := mkS ts[k].s, at_ := (ts[k].at_ : Int), till := (ts[k].end_ : Int), words := .slice wa 0 wc, naming := false } = par.past ts[k] (tailV g (k * 5) (ts.length - k) (lc - k)) (.slice wa 0 wc) := by
    simp [Par.past, hkind, openN]
  rw [e] at h1
  exact ⟨rfl, _, _, h.of hm h1 rfl ht.1 ht.2 ho', hm⟩
end Go.Proofs.YtmkibolkcjallaaGreatDoor
