/- takes, takesKind, takesOne where expressions are read. Own work. -/
import Derived.Test.YtmkibolkcjallaaGreatDoorSyNode
namespace Go.Proofs.YtmkibolkcjallaaGreatDoor
open Go.RowKit Sc
/-- what may be said of the lexeme ahead -/
def Okk (zs : List Nat) (ts : List Tok) (k : Nat) : Prop := ∃ h : k < ts.length, ts[k].at_ < ts[k].end_ ∧ ts[k].end_ ≤ zs.length
theorem takes_noE {w : World} {pb base b o cap g lc : Nat} {zs : List Nat} {ts : List Tok} {k : Nat} {par : Par} {ws : List ByteArray} {ns : List Nd} (t : ByteArray) (h : Ex w pb base b o cap g lc zs ts k par ws ns) (hk : k < ts.length) (hp : ts[k].at_ < ts[k].end_) (hq : ts[k].end_ ≤ zs.length) (hzt : mkS (lexB zs ts[k]) ≠ t) (hl : ws.length ≤ 1000) :
    Calls Tryz.prog 27 #[.pointer (some ⟨pb, 0, none⟩), .string t] w fun e w' => e = .returned (.bool false) ∧ ∃ wv, Ex w' pb base b o cap g lc zs ts k { par with words := wv } (ws ++ [t]) ns ∧ Me pb base w par w' { par with words := wv } := by
  have hx := h.rt.lx hk hp hq
  have hn := hx.words_ne
  refine (takes_other t h.rt.parB hx.next hx.sl ⟨h.rt.apart.1, h.rt.apart.2, hn.1, hn.2.1⟩ hzt h.rt.own hn.2.2 hl h.rt.top).mono ?_
  rintro e w' ⟨rfl, wv, h1, h2, h3, h4⟩
  obtain ⟨x, y⟩ := h.lexed (par' := { par with words := wv }) rfl ⟨rfl, rfl, rfl, rfl, rfl, rfl, rfl⟩ h3 h4 (h.rt.of (Mv.of h.rt.own h4) h1 rfl h.rt.list h.rt.done h2)
  exact ⟨rfl, wv, x, y⟩
theorem takes_yesE {w : World} {pb base b o cap g lc : Nat} {zs : List Nat} {ts : List Tok} {k : Nat} {par : Par} {ws : List ByteArray} {ns : List Nd} (t : ByteArray) (h : Ex w pb base b o cap g lc zs ts k par ws ns) (hk : k < ts.length) (hp : ts[k].at_ < ts[k].end_) (hq : ts[k].end_ ≤ zs.length) (hzt : mkS (lexB zs ts[k]) = t) (ho : 0 ≤ par.open_ ∧ par.open_ ≤ 1000) (ho2 : openN (ts[k].kind : Int) par.open_ ≤ 32) (hl : ws.length ≤ 1000) :
    Calls Tryz.prog 27 #[.pointer (some ⟨pb, 0, none⟩), .string t] w fun e w' => e = .returned (.bool true) ∧ ∃ v wv, Ex w' pb base b o cap g lc zs ts (k + 1) (par.past ts[k] v wv) [] ns ∧ Me pb base w par w' (par.past ts[k] v wv) := by
  have hx := h.rt.lx hk hp hq
  have hn := hx.words_ne
  obtain ⟨c0, c1, c2, _, _⟩ := h.rt.tk.2 k hk
  have ht := tailV_list (g := g) hk h.rt.room
  refine (takes_this t h.rt.parB hx.next hx.sl ⟨h.rt.apart.1, h.rt.apart.2, hn.1, hn.2.1⟩ hzt (by have := h.rt.room; omega) c0 c1 c2 ho ho2 h.rt.own hn.2.2 hl h.rt.top).mono ?_
  rintro e w' ⟨rfl, wv, h1, h2, h3, h4⟩
  obtain ⟨x, y⟩ := h.lexed (par' := par.past ts[k] (tailV g (k * 5) (ts.length - k) (lc - k)) wv) rfl ⟨rfl, rfl, rfl, rfl, rfl, rfl, rfl⟩ h3 h4 (h.rt.of (Mv.of h.rt.own h4) h1 rfl ht.1 ht.2 h2)
  exact ⟨rfl, _, wv, x, y⟩
theorem Lie.same (w : World) {pb : Nat} {v : Value} (h : v.ownBlock ≠ some pb) : Lie w pb v v := ⟨h, .inl rfl⟩
theorem takesKind_noE {w : World} {pb base b o cap g lc : Nat} {zs : List Nat} {ts : List Tok} {k : Nat} {par : Par} {ws : List ByteArray} {ns : List Nd} (kind : Int) (h : Ex w pb base b o cap g lc zs ts k par ws ns) (hk : k < ts.length) (hne : (ts[k].kind : Int) ≠ kind) :
    Calls Tryz.prog 29 #[.pointer (some ⟨pb, 0, none⟩), .int .i64 kind] w fun e w' => e = .returned (.bool false) ∧ Ex w' pb base b o cap g lc zs ts k { par with naming := par.naming || (kind == 1) } ws ns ∧ Me pb base w par w' { par with naming := par.naming || (kind == 1) } := by
  obtain ⟨c0, _⟩ := h.rt.tk.2 k hk
  have hpw : par.words.ownBlock ≠ some pb := fun e => by have := h.rt.own.lt _ e; have := h.rt.low; omega
  refine (takesKind_other kind h.rt.parB (h.rt.list hk) (by omega) h.rt.apart.1 c0 hne).mono ?_
  rintro e w' ⟨rfl, h1, h4⟩
  have h4' : Keeps (fun k => k = pb ∨ par.words.ownBlock = some k) w w' := h4.mono (fun _ _ => .inl)
  obtain ⟨x, y⟩ := h.lexed (par' := { par with naming := par.naming || (kind == 1) }) rfl ⟨rfl, rfl, rfl, rfl, rfl, rfl, rfl⟩ (Lie.same w hpw) h4' (h.rt.of (Mv.of h.rt.own h4') h1 rfl h.rt.list h.rt.done (h.rt.own.keeps h4 (fun i hi e => by subst e; exact hpw hi)))
  exact ⟨rfl, x, y⟩
theorem takesKind_yesE {w : World} {pb base b o cap g lc : Nat} {zs : List Nat} {ts : List Tok} {k : Nat} {par : Par} {ws : List ByteArray} {ns : List Nd} (kind : Nat) (h : Ex w pb base b o cap g lc zs ts k par ws ns) (hk : k < ts.length) (hkd : ts[k].kind = kind) (ho : 0 ≤ par.open_ ∧ par.open_ ≤ 1000) (ho2 : openN (ts[k].kind : Int) par.open_ ≤ 32) :
    Calls Tryz.prog 29 #[.pointer (some ⟨pb, 0, none⟩), .int .i64 (kind : Int)] w fun e w' => e = .returned (.bool true) ∧ ∃ v wv, Ex w' pb base b o cap g lc zs ts (k + 1) (par.past ts[k] v wv) [] ns ∧ Me pb base w par w' (par.past ts[k] v wv) := by
  obtain ⟨c0, c1, c2, c3, c4⟩ := h.rt.tk.2 k hk
  have hpw : par.words.ownBlock ≠ some pb := fun e => by have := h.rt.own.lt _ e; have := h.rt.low; omega
  obtain ⟨wa, wc, hw⟩ := h.rt.own.form
  have ht := tailV_list (g := g) hk h.rt.room
  subst hkd
  refine (takesKind_this (ts[k].kind : Int) h.rt.parB (h.rt.list hk) (by omega) (by have := h.rt.room; omega) hw h.rt.apart.1 c0 c1 c2 c3 c4 ho ho2).mono ?_
  rintro e w' ⟨rfl, h1, h4⟩
  have h4' : Keeps (fun k => k = pb ∨ par.words.ownBlock = some k) w w' := h4.mono (fun _ _ => .inl)
  have hob : (Value.slice wa 0 wc).ownBlock = par.words.ownBlock := by rw [hw]; exact own_same wa 0 ws.length wc
  have ho' : OwnS w' base (.slice wa 0 wc) [] := by
    have := h.rt.own
    rw [hw] at this
    exact (this.keeps h4 (fun i hi e => by subst e; exact hpw (by rw [hw]; exact hi))).empty
  obtain ⟨x, y⟩ := h.lexed (par' := par.past ts[k] (tailV g (k * 5) (ts.length - k) (lc - k)) (.slice wa 0 wc)) rfl ⟨rfl, rfl, rfl, rfl, rfl, rfl, rfl⟩ ⟨by rw [show (Par.past par ts[k] (tailV g (k * 5) (ts.length - k) (lc - k)) (.slice wa 0 wc)).words = .slice wa 0 wc from rfl, hob]; exact hpw, .inl hob⟩ h4' (h.rt.of (Mv.of h.rt.own h4') h1 rfl ht.1 ht.2 ho')
  exact ⟨rfl, _, _, x, y⟩
end Go.Proofs.YtmkibolkcjallaaGreatDoor
