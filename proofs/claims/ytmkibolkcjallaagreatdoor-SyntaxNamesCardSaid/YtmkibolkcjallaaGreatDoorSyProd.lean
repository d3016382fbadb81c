/- prod at one integer. Own work. -/
import Derived.Test.YtmkibolkcjallaaGreatDoorSyChn1
namespace Go.Proofs.YtmkibolkcjallaaGreatDoor
open Go.RowKit Go.Shelf Sc
/-- a row of signs that was just built -/
theorem Sgn.new {w : World} {pb base b o cap g lc : Nat} {zs : List Nat} {ts : List Tok} {k : Nat} {par : Par} {ws : List ByteArray} {ns : List Nd} (h : Ex w pb base b o cap g lc zs ts k par ws ns) (ss : List ByteArray) (cs : Array Value) (hcs : ∀ i (hi : i < ss.length), cs[i]? = some (.string ss[i])) (t : TypeId) : Sgn (w.alloc (.cells cs t)) pb par w.heap.size ss :=
  ⟨fun i hi => by rw [cell_of_row _ _ i _ _ _ (heap_alloc_new w _)]; exact hcs i hi, fun e => by have := h.rt.parB.lt; omega, fun e => by have := h.rt.own.lt _ e; omega, fun e => by have := h.nd.lt _ e; omega, by simp⟩
def sgProd : List ByteArray := [⟨#[42]⟩, ⟨#[47]⟩, ⟨#[37]⟩]
set_option maxRecDepth 100000 in
set_option maxHeartbeats 4000000 in
theorem prod_int {w : World} {pb base b o cap g lc : Nat} {zs : List Nat} {ts : List Tok} {k : Nat} {par : Par} {ws : List ByteArray} {ns : List Nd} (h : Ex w pb base b o cap g lc zs ts k par ws ns) (hk : k < ts.length) (hkd : ts[k].kind = 2) (ho : 0 ≤ par.open_ ∧ par.open_ ≤ 32) (hl : ns.length ≤ 1000) (hk2 : k + 1 < ts.length) (hp2 : ts[k + 1].at_ < ts[k + 1].end_) (hq2 : ts[k + 1].end_ ≤ zs.length) (hno : ∀ t ∈ sgProd, mkS (lexB zs ts[k + 1]) ≠ t) :
    Calls Tryz.prog 107 #[.pointer (some ⟨pb, 0, none⟩)] w fun e w' => e = .returned (.int .i64 (ns.length : Int)) ∧ ∃ par' ws', (Ex w' pb base b o cap g lc zs ts (k + 1) par' ws' (ns ++ [⟨2, (ts[k].n : Int), ⟨#[]⟩, none, 0, 0, (ts[k].at_ : Int)⟩]) ∧ ws'.length = 3 ∧ par'.open_ = par.open_) ∧ Me pb base w par w' par' := by
  have HX := Lib.hid h
  have HNo : Hid (∀ t ∈ sgProd, mkS (lexB zs ts[k + 1]) ≠ t) := hno
  have HEn : Hid (Enters Tryz.prog 108) := enters_of Tryz.func108 (by kernel_rfl) rfl
  have hmf : ∀ (fn : Fn) (first cap : Array Value) (w : World), (Instr.makeFunc fn first cap).run Tryz.prog w = .ok (.func fn first cap) w := fun _ _ _ _ => rfl
  clear h hno
  go_enter Tryz.func107, Tryz.ntmps107
  go_wp2_with fail
  have HC := chain_no (w := w.alloc (.cells #[.string ⟨#[42]⟩, .string ⟨#[47]⟩, .string ⟨#[37]⟩] 9)) (sg := w.heap.size) (ss := sgProd) (par := par) (r := (ns.length : Int)) (k := k + 1)
    (G := fun w1 p1 ws1 ns1 => Ex w1 pb base b o cap g lc zs ts (k + 1) p1 ws1 ns1 ∧ ns1 = (ns ++ [⟨2, (ts[k].n : Int), ⟨#[]⟩, none, 0, 0, (ts[k].at_ : Int)⟩]) ∧ ws1 = [] ∧ p1.open_ = par.open_)
    (G' := fun w1 p1 ws1 ns1 => Ex w1 pb base b o cap g lc zs ts (k + 1) p1 ws1 ns1 ∧ ns1 = (ns ++ [⟨2, (ts[k].n : Int), ⟨#[]⟩, none, 0, 0, (ts[k].at_ : Int)⟩]) ∧ ws1.length = 3 ∧ p1.open_ = par.open_)
    HEn.out ((atom_int (HX.out.alloc _) hk hkd ho hl).mono fun e w' ⟨h1, v, wv, nv, h2, h3⟩ => ⟨h1, _, _, _, ⟨h2, rfl, rfl, by show openN (ts[k].kind : Int) par.open_ = par.open_; rw [hkd]; rfl⟩, h3⟩)
    (fun w1 p1 ws1 ns1 h1 => ⟨h1.1, by rw [h1.2.2.1]; simp⟩)
    (fun w1 p1 ws1 ns1 w2 wv h1 h2 h3 => ⟨h2, h1.2.1, by rw [h1.2.2.1]; rfl, h1.2.2.2⟩)
    (Sgn.new HX.out sgProd _ (fun i hi => by match i, hi with | 0, _ => rfl | 1, _ => rfl | 2, _ => rfl) _) hk2 hp2 hq2 HNo.out (by decide)
  refine HC.mono ?_
  rintro e w2 ⟨rfl, p2, ws2, ns2, ⟨g2, rfl, g3, g4⟩, m2⟩
  have HG2 := Lib.hid (And.intro g2 (And.intro g3 g4))
  have HM2 : Hid (Me pb base w par w2 p2) := ((Me.refl _ _ _ _).alloc _).trans m2
  clear g2 g3 g4 m2 HC
  go_wp2_with fail
  go_ret
  exact ⟨rfl, p2, ws2, HG2.out, HM2.out⟩
set_option maxRecDepth 100000 in
set_option maxHeartbeats 4000000 in
theorem prod_mul {w : World} {pb base b o cap g lc : Nat} {zs : List Nat} {ts : List Tok} {k : Nat} {par : Par} {ws : List ByteArray} {ns : List Nd} (h : Ex w pb base b o cap g lc zs ts k par ws ns) (hk3 : k + 1 + 1 + 1 < ts.length) (hkd : ts[k].kind = 2) (hkn : ts[k + 1 + 1].kind = 1) (ho : 0 ≤ par.open_ ∧ par.open_ ≤ 32) (hl : ns.length ≤ 900) (hp1 : ts[k + 1].at_ < ts[k + 1].end_) (hq1 : ts[k + 1].end_ ≤ zs.length) (hz1 : mkS (lexB zs ts[k + 1]) = ⟨#[42]⟩) (hop : openN (ts[k + 1].kind : Int) par.open_ = par.open_) (hp3 : ts[k + 1 + 1 + 1].at_ < ts[k + 1 + 1 + 1].end_) (hq3 : ts[k + 1 + 1 + 1].end_ ≤ zs.length) (hno : ∀ t ∈ sgProd, mkS (lexB zs ts[k + 1 + 1 + 1]) ≠ t) :
    Calls Tryz.prog 107 #[.pointer (some ⟨pb, 0, none⟩)] w fun e w' => e = .returned (.int .i64 ((ns.length + 2 : Nat) : Int)) ∧ ∃ par' ws' ns', (Ex w' pb base b o cap g lc zs ts (k + 1 + 1 + 1) par' ws' ns' ∧ ws'.length = 3 ∧ par'.open_ = par.open_ ∧ ∃ kb, ns' = ns ++ ([⟨2, (ts[k].n : Int), ⟨#[]⟩, none, 0, 0, (ts[k].at_ : Int)⟩] : List Nd) ++ ([⟨1, 0, mkS ts[k + 1 + 1].s, none, 0, 0, (ts[k + 1 + 1].at_ : Int)⟩] : List Nd) ++ ([⟨(ts[k + 1].kind : Int), 0, ⟨#[]⟩, some ⟨kb, 0, none⟩, 2, 2, (ts[k + 1].at_ : Int)⟩] : List Nd) ∧ Kd w' pb par' kb (ns.length : Int) ((ns.length + 1 : Nat) : Int)) ∧ Me pb base w par w' par' := by
  have HX := Lib.hid h
  have HNo : Hid (∀ t ∈ sgProd, mkS (lexB zs ts[k + 1 + 1 + 1]) ≠ t) := hno
  have HEn : Hid (Enters Tryz.prog 108) := enters_of Tryz.func108 (by kernel_rfl) rfl
  have hmf : ∀ (fn : Fn) (first cap : Array Value) (w : World), (Instr.makeFunc fn first cap).run Tryz.prog w = .ok (.func fn first cap) w := fun _ _ _ _ => rfl
  clear h hno
  go_enter Tryz.func107, Tryz.ntmps107
  go_wp2_with fail
  have HC := chain_one (w := w.alloc (.cells #[.string ⟨#[42]⟩, .string ⟨#[47]⟩, .string ⟨#[37]⟩] 9)) (sg := w.heap.size) (s0 := ⟨#[42]⟩) (ss := [⟨#[47]⟩, ⟨#[37]⟩]) (par := par) (r := (ns.length : Int)) (r2 := ((ns.length + 1 : Nat) : Int)) (r3 := ns.length + 2) (k := k + 1) (k2 := k + 1 + 1 + 1) (ns := ns ++ ([⟨2, (ts[k].n : Int), ⟨#[]⟩, none, 0, 0, (ts[k].at_ : Int)⟩] : List Nd))
    (G := fun w1 p1 ws1 ns1 => Ex w1 pb base b o cap g lc zs ts (k + 1 + 1 + 1) p1 ws1 ns1 ∧ ws1.length = 0 ∧ p1.open_ = par.open_ ∧ ∃ kb, ns1 = ns ++ ([⟨2, (ts[k].n : Int), ⟨#[]⟩, none, 0, 0, (ts[k].at_ : Int)⟩] : List Nd) ++ ([⟨1, 0, mkS ts[k + 1 + 1].s, none, 0, 0, (ts[k + 1 + 1].at_ : Int)⟩] : List Nd) ++ ([⟨(ts[k + 1].kind : Int), 0, ⟨#[]⟩, some ⟨kb, 0, none⟩, 2, 2, (ts[k + 1].at_ : Int)⟩] : List Nd) ∧ Kd w1 pb p1 kb (ns.length : Int) ((ns.length + 1 : Nat) : Int))
    (G' := fun w1 p1 ws1 ns1 => Ex w1 pb base b o cap g lc zs ts (k + 1 + 1 + 1) p1 ws1 ns1 ∧ ws1.length = 3 ∧ p1.open_ = par.open_ ∧ ∃ kb, ns1 = ns ++ ([⟨2, (ts[k].n : Int), ⟨#[]⟩, none, 0, 0, (ts[k].at_ : Int)⟩] : List Nd) ++ ([⟨1, 0, mkS ts[k + 1 + 1].s, none, 0, 0, (ts[k + 1 + 1].at_ : Int)⟩] : List Nd) ++ ([⟨(ts[k + 1].kind : Int), 0, ⟨#[]⟩, some ⟨kb, 0, none⟩, 2, 2, (ts[k + 1].at_ : Int)⟩] : List Nd) ∧ Kd w1 pb p1 kb (ns.length : Int) ((ns.length + 1 : Nat) : Int))
    (P2 := fun W p' ns' => ns' = ns ++ ([⟨2, (ts[k].n : Int), ⟨#[]⟩, none, 0, 0, (ts[k].at_ : Int)⟩] : List Nd) ++ ([⟨1, 0, mkS ts[k + 1 + 1].s, none, 0, 0, (ts[k + 1 + 1].at_ : Int)⟩] : List Nd) ∧ p'.open_ = par.open_ ∧ ∃ a c, p'.words = .slice a 0 c)
    (by omega) HEn.out ((atom_int (HX.out.alloc _) (by omega) hkd ho (by omega)).mono fun e w' ⟨h1, v, wv, nv, h2, h3⟩ => ⟨h1, _, _, h2, by simp, by show openN (ts[k].kind : Int) par.open_ = par.open_; rw [hkd]; rfl, h3⟩)
    (fun W p h1 h2 => ((atom_name h1 (by omega) hkn (by rw [h2, hop]; exact ho) (by simp; omega)).mono fun e w' ⟨x1, v, wv, nv, x2, x3⟩ => ⟨by rw [x1]; simp, _, _, _, x2, by simp, ⟨rfl, by show openN (ts[k + 1 + 1].kind : Int) p.open_ = par.open_; rw [hkn, h2, hop]; rfl, by obtain ⟨a, c, e⟩ := x2.rt.own.form; exact ⟨a, c, e⟩⟩, x3⟩))
    (by omega) (by omega)
    (fun W p' ws' ns' w' kb nv x1 x2 x3 x4 x5 => ⟨x3, by obtain ⟨a, c, e⟩ := x1.rt.own.form; obtain ⟨a', c', e'⟩ := x2.2.2; rw [e'] at e; simp only [Value.slice.injEq] at e; exact e.2.1.symm, x2.2.1, kb, by rw [x2.1], x5⟩)
    (fun w1 p1 ws1 ns1 h1 => ⟨h1.1, by rw [h1.2.1]; simp⟩)
    (fun w1 p1 ws1 ns1 w2 wv h1 h2 h3 => ⟨h2, by rw [List.length_append, h1.2.1]; rfl, h1.2.2.1, by obtain ⟨kb, e, hk⟩ := h1.2.2.2; exact ⟨kb, e, hk.me h3⟩⟩)
    (Sgn.new HX.out sgProd _ (fun i hi => by match i, hi with | 0, _ => rfl | 1, _ => rfl | 2, _ => rfl) _) hp1 hq1 hz1 ho (by rw [hop]; exact ho.2) hk3 hp3 hq3 HNo.out (by decide)
  refine HC.mono ?_
  rintro e w2 ⟨rfl, p2, ws2, ns2, g2, m2⟩
  have HG2 := Lib.hid g2
  have HM2 : Hid (Me pb base w par w2 p2) := ((Me.refl _ _ _ _).alloc _).trans m2
  clear g2 m2 HC
  go_wp2_with fail
  go_ret
  exact ⟨rfl, p2, ws2, ns2, HG2.out, HM2.out⟩
end Go.Proofs.YtmkibolkcjallaaGreatDoor
