import Derived.Test.YtmkibolkcjallaaGreatDoorSyProd
import Derived.Test.YtmkibolkcjallaaGreatDoorSyNd2
import Derived.Deep.MidRow
import Derived.Deep.WholeRow
/- sum at '1 + 2 * b', and the readers above it (written by parts/gen_up.py). Own work. -/
namespace Go.Proofs.YtmkibolkcjallaaGreatDoor
open Go.RowKit Go.Shelf Sc
def zsC : List Nat := [115, 121, 115, 116, 101, 109, 32, 115, 32, 123, 32, 99, 111, 110, 115, 116, 32, 97, 32, 61, 32, 49, 32, 43, 32, 50, 32, 42, 32, 98, 32, 59, 32, 125]
def tsC : List Tok := [⟨30, 0, [], 0, 6⟩, ⟨1, 0, [115], 7, 8⟩, ⟨4, 0, [], 9, 10⟩, ⟨31, 0, [], 11, 16⟩, ⟨1, 0, [97], 17, 18⟩, ⟨13, 0, [], 19, 20⟩, ⟨2, 1, [], 21, 22⟩, ⟨25, 0, [], 23, 24⟩, ⟨2, 2, [], 25, 26⟩, ⟨27, 0, [], 27, 28⟩, ⟨1, 0, [98], 29, 30⟩, ⟨10, 0, [], 31, 32⟩, ⟨5, 0, [], 33, 34⟩]
theorem tokens_C : Sc.tokens zsC = (tsC, 0, 0) := by kernel_rfl
def nC0 : Nd := ⟨2, 1, ⟨#[]⟩, none, 0, 0, 21⟩
def nC1 : Nd := ⟨2, 2, ⟨#[]⟩, none, 0, 0, 25⟩
def nC2 : Nd := ⟨1, 0, ⟨#[98]⟩, none, 0, 0, 29⟩
def nC3 (kb : Nat) : Nd := ⟨27, 0, ⟨#[]⟩, some ⟨kb, 0, none⟩, 2, 2, 27⟩
def nC4 (kc : Nat) : Nd := ⟨25, 0, ⟨#[]⟩, some ⟨kc, 0, none⟩, 2, 2, 23⟩
/-- behind '1 + 2 * b' -/
structure Fv (w : World) (pb base b o cap g lc : Nat) (p : Par) (ws : List ByteArray) (ns : List Nd) (m : Nat) : Prop where
  ex : Ex w pb base b o cap g lc zsC tsC 11 p ws ns
  op_ : p.open_ = 1
  len : ws.length = m
  kids : ∃ kb kc, ns = [nC0, nC1, nC2, nC3 kb, nC4 kc] ∧ Kd w pb p kb 1 2 ∧ Kd w pb p kc 0 3
theorem Fv.more {w w2 : World} {pb base b o cap g lc : Nat} {p : Par} {ws ss : List ByteArray} {ns : List Nd} {m : Nat} {wv : Value} (h : Fv w pb base b o cap g lc p ws ns m) (x : Ex w2 pb base b o cap g lc zsC tsC 11 { p with words := wv } (ws ++ ss) ns) (me : Me pb base w p w2 { p with words := wv }) : Fv w2 pb base b o cap g lc { p with words := wv } (ws ++ ss) ns (m + ss.length) :=
  ⟨x, h.op_, by rw [List.length_append, h.len], by obtain ⟨kb, kc, e, h1, h2⟩ := h.kids; exact ⟨kb, kc, e, h1.me me, h2.me me⟩⟩
def sgSum : List ByteArray := [⟨#[43]⟩, ⟨#[45]⟩]
set_option maxRecDepth 100000 in
set_option maxHeartbeats 4000000 in
theorem sum_C {w : World} {pb base b o cap g lc : Nat} {par : Par} {ws : List ByteArray} (h : Ex w pb base b o cap g lc zsC tsC 6 par ws []) (ho : par.open_ = 1) :
    Calls Tryz.prog 106 #[.pointer (some ⟨pb, 0, none⟩)] w fun e w' => e = .returned (.int .i64 4) ∧ ∃ par' ws' ns', Fv w' pb base b o cap g lc par' ws' ns' 5 ∧ Me pb base w par w' par' := by
  have HX := Lib.hid h
  have HEn : Hid (Enters Tryz.prog 107) := enters_of Tryz.func107 (by kernel_rfl) rfl
  have hmf : ∀ (fn : Fn) (first cap : Array Value) (w : World), (Instr.makeFunc fn first cap).run Tryz.prog w = .ok (.func fn first cap) w := fun _ _ _ _ => rfl
  clear h
  go_enter Tryz.func106, Tryz.ntmps106
  go_wp2_with fail
  have HC := chain_one (w := w.alloc (.cells #[.string ⟨#[43]⟩, .string ⟨#[45]⟩] 9)) (pb := pb) (base := base) (b := b) (o := o) (cap := cap) (g := g) (lc := lc) (zs := zsC) (ts := tsC) (sg := w.heap.size) (s0 := ⟨#[43]⟩) (ss := [⟨#[45]⟩]) (par := par) (r := 0) (r2 := 3) (r3 := 4) (k := 7) (k2 := 11) (ns := [nC0])
    (G := fun w1 p1 ws1 ns1 => Fv w1 pb base b o cap g lc p1 ws1 ns1 3) (G' := fun w1 p1 ws1 ns1 => Fv w1 pb base b o cap g lc p1 ws1 ns1 5)
    (P2 := fun W p' ns' => p'.open_ = 1 ∧ (∃ a c, p'.words = .slice a 3 c) ∧ ∃ kb, ns' = [nC0, nC1, nC2, nC3 kb] ∧ Kd W pb p' kb 1 2)
    (by decide) HEn.out
    ((prod_int (HX.out.alloc _) (by decide) (by decide) (by rw [ho]; decide) (by decide) (by decide) (by decide) (by decide) (by decide)).mono fun e w' ⟨h1, p', ws', ⟨h2, h3, h4⟩, h5⟩ => ⟨h1, p', ws', h2, by omega, h4, h5⟩)
    (fun W p h1 h2 => ((prod_mul h1 (by decide) (by decide) (by decide) (by rw [h2, ho]; decide) (by decide) (show tsC[9].at_ < tsC[9].end_ by decide) (show tsC[9].end_ ≤ zsC.length by decide) (show mkS (lexB zsC tsC[9]) = ⟨#[42]⟩ by decide) (by rw [h2, ho]; exact (show openN (tsC[9].kind : Int) (openN (tsC[7].kind : Int) 1) = openN (tsC[7].kind : Int) 1 by decide)) (show tsC[11].at_ < tsC[11].end_ by decide) (show tsC[11].end_ ≤ zsC.length by decide) (show ∀ t ∈ sgProd, mkS (lexB zsC tsC[11]) ≠ t by decide)).mono fun e w' ⟨x1, p', ws', ns', ⟨x2, x3, x4, kb, x5, x6⟩, x7⟩ => ⟨x1, p', ws', ns', x2, by rw [x5]; rfl, ⟨by rw [x4, h2, ho]; decide, by obtain ⟨a, c, e⟩ := x2.rt.own.form; rw [x3] at e; exact ⟨a, c, e⟩, kb, x5, x6⟩, x7⟩))
    (by decide) (by decide)
    (fun W p' ws' ns' w' kb nv x1 x2 x3 x4 x5 => ⟨x3, x2.1, by obtain ⟨a, c, e⟩ := x1.rt.own.form; obtain ⟨a', c', e'⟩ := x2.2.1; rw [e'] at e; simp only [Value.slice.injEq] at e; exact e.2.1.symm, by obtain ⟨k4, e4, h4⟩ := x2.2.2; exact ⟨k4, kb, by rw [e4]; rfl, h4.me x4, x5⟩⟩)
    (fun w1 p1 ws1 ns1 h1 => ⟨h1.ex, by rw [h1.len]; decide⟩)
    (fun w1 p1 ws1 ns1 w2 wv h1 h2 h3 => h1.more h2 h3)
    (Sgn.new HX.out sgSum _ (fun i hi => by match i, hi with | 0, _ => rfl | 1, _ => rfl) _) (by decide) (by decide) (by decide) (by rw [ho]; decide) (by rw [ho]; decide) (by decide) (by decide) (by decide) (by decide) (by decide)
  refine HC.mono ?_
  rintro e w2 ⟨rfl, p2, ws2, ns2, g2, m2⟩
  have HG2 := Lib.hid g2
  have HM2 : Hid (Me pb base w par w2 p2) := ((Me.refl _ _ _ _).alloc _).trans m2
  clear g2 m2 HC
  go_wp2_with fail
  go_ret
  exact ⟨rfl, p2, ws2, ns2, HG2.out, HM2.out⟩
def sg_shift : List ByteArray := [⟨#[60, 60]⟩, ⟨#[62, 62]⟩]
set_option maxRecDepth 100000 in
set_option maxHeartbeats 4000000 in
theorem shift_C {w : World} {pb base b o cap g lc : Nat} {par : Par} {ws : List ByteArray} (h : Ex w pb base b o cap g lc zsC tsC 6 par ws []) (ho : par.open_ = 1) :
    Calls Tryz.prog 105 #[.pointer (some ⟨pb, 0, none⟩)] w fun e w' => e = .returned (.int .i64 4) ∧ ∃ par' ws' ns', Fv w' pb base b o cap g lc par' ws' ns' 7 ∧ Me pb base w par w' par' := by
  have HX := Lib.hid h
  have HEn : Hid (Enters Tryz.prog 106) := enters_of Tryz.func106 (by kernel_rfl) rfl
  have hmf : ∀ (fn : Fn) (first cap : Array Value) (w : World), (Instr.makeFunc fn first cap).run Tryz.prog w = .ok (.func fn first cap) w := fun _ _ _ _ => rfl
  clear h
  go_enter Tryz.func105, Tryz.ntmps105
  go_wp2_with fail
  have HC := chain_no (w := w.alloc (.cells #[.string ⟨#[60, 60]⟩, .string ⟨#[62, 62]⟩] 9)) (pb := pb) (base := base) (b := b) (o := o) (cap := cap) (g := g) (lc := lc) (zs := zsC) (ts := tsC) (sg := w.heap.size) (ss := sg_shift) (par := par) (r := 4) (k := 11)
    (G := fun w1 p1 ws1 ns1 => Fv w1 pb base b o cap g lc p1 ws1 ns1 5) (G' := fun w1 p1 ws1 ns1 => Fv w1 pb base b o cap g lc p1 ws1 ns1 7)
    HEn.out (sum_C (HX.out.alloc _) ho)
    (fun w1 p1 ws1 ns1 h1 => ⟨h1.ex, by rw [h1.len]; decide⟩)
    (fun w1 p1 ws1 ns1 w2 wv h1 h2 h3 => h1.more h2 h3)
    (Sgn.new HX.out sg_shift _ (fun i hi => by match i, hi with | 0, _ => rfl | 1, _ => rfl) _) (by decide) (by decide) (by decide) (by decide) (by decide)
  refine HC.mono ?_
  rintro e w2 ⟨rfl, p2, ws2, ns2, g2, m2⟩
  have HG2 := Lib.hid g2
  have HM2 : Hid (Me pb base w par w2 p2) := ((Me.refl _ _ _ _).alloc _).trans m2
  clear g2 m2 HC
  go_wp2_with fail
  go_ret
  exact ⟨rfl, p2, ws2, ns2, HG2.out, HM2.out⟩
def sg_ands : List ByteArray := [⟨#[38]⟩]
set_option maxRecDepth 100000 in
set_option maxHeartbeats 4000000 in
theorem ands_C {w : World} {pb base b o cap g lc : Nat} {par : Par} {ws : List ByteArray} (h : Ex w pb base b o cap g lc zsC tsC 6 par ws []) (ho : par.open_ = 1) :
    Calls Tryz.prog 104 #[.pointer (some ⟨pb, 0, none⟩)] w fun e w' => e = .returned (.int .i64 4) ∧ ∃ par' ws' ns', Fv w' pb base b o cap g lc par' ws' ns' 8 ∧ Me pb base w par w' par' := by
  have HX := Lib.hid h
  have HEn : Hid (Enters Tryz.prog 105) := enters_of Tryz.func105 (by kernel_rfl) rfl
  have hmf : ∀ (fn : Fn) (first cap : Array Value) (w : World), (Instr.makeFunc fn first cap).run Tryz.prog w = .ok (.func fn first cap) w := fun _ _ _ _ => rfl
  clear h
  go_enter Tryz.func104, Tryz.ntmps104
  go_wp2_with fail
  have HC := chain_no (w := w.alloc (.cells #[.string ⟨#[38]⟩] 9)) (pb := pb) (base := base) (b := b) (o := o) (cap := cap) (g := g) (lc := lc) (zs := zsC) (ts := tsC) (sg := w.heap.size) (ss := sg_ands) (par := par) (r := 4) (k := 11)
    (G := fun w1 p1 ws1 ns1 => Fv w1 pb base b o cap g lc p1 ws1 ns1 7) (G' := fun w1 p1 ws1 ns1 => Fv w1 pb base b o cap g lc p1 ws1 ns1 8)
    HEn.out (shift_C (HX.out.alloc _) ho)
    (fun w1 p1 ws1 ns1 h1 => ⟨h1.ex, by rw [h1.len]; decide⟩)
    (fun w1 p1 ws1 ns1 w2 wv h1 h2 h3 => h1.more h2 h3)
    (Sgn.new HX.out sg_ands _ (fun i hi => by match i, hi with | 0, _ => rfl) _) (by decide) (by decide) (by decide) (by decide) (by decide)
  refine HC.mono ?_
  rintro e w2 ⟨rfl, p2, ws2, ns2, g2, m2⟩
  have HG2 := Lib.hid g2
  have HM2 : Hid (Me pb base w par w2 p2) := ((Me.refl _ _ _ _).alloc _).trans m2
  clear g2 m2 HC
  go_wp2_with fail
  go_ret
  exact ⟨rfl, p2, ws2, ns2, HG2.out, HM2.out⟩
def sg_xors : List ByteArray := [⟨#[94]⟩]
set_option maxRecDepth 100000 in
set_option maxHeartbeats 4000000 in
theorem xors_C {w : World} {pb base b o cap g lc : Nat} {par : Par} {ws : List ByteArray} (h : Ex w pb base b o cap g lc zsC tsC 6 par ws []) (ho : par.open_ = 1) :
    Calls Tryz.prog 99 #[.pointer (some ⟨pb, 0, none⟩)] w fun e w' => e = .returned (.int .i64 4) ∧ ∃ par' ws' ns', Fv w' pb base b o cap g lc par' ws' ns' 9 ∧ Me pb base w par w' par' := by
  have HX := Lib.hid h
  have HEn : Hid (Enters Tryz.prog 104) := enters_of Tryz.func104 (by kernel_rfl) rfl
  have hmf : ∀ (fn : Fn) (first cap : Array Value) (w : World), (Instr.makeFunc fn first cap).run Tryz.prog w = .ok (.func fn first cap) w := fun _ _ _ _ => rfl
  clear h
  go_enter Tryz.func99, Tryz.ntmps99
  go_wp2_with fail
  have HC := chain_no (w := w.alloc (.cells #[.string ⟨#[94]⟩] 9)) (pb := pb) (base := base) (b := b) (o := o) (cap := cap) (g := g) (lc := lc) (zs := zsC) (ts := tsC) (sg := w.heap.size) (ss := sg_xors) (par := par) (r := 4) (k := 11)
    (G := fun w1 p1 ws1 ns1 => Fv w1 pb base b o cap g lc p1 ws1 ns1 8) (G' := fun w1 p1 ws1 ns1 => Fv w1 pb base b o cap g lc p1 ws1 ns1 9)
    HEn.out (ands_C (HX.out.alloc _) ho)
    (fun w1 p1 ws1 ns1 h1 => ⟨h1.ex, by rw [h1.len]; decide⟩)
    (fun w1 p1 ws1 ns1 w2 wv h1 h2 h3 => h1.more h2 h3)
    (Sgn.new HX.out sg_xors _ (fun i hi => by match i, hi with | 0, _ => rfl) _) (by decide) (by decide) (by decide) (by decide) (by decide)
  refine HC.mono ?_
  rintro e w2 ⟨rfl, p2, ws2, ns2, g2, m2⟩
  have HG2 := Lib.hid g2
  have HM2 : Hid (Me pb base w par w2 p2) := ((Me.refl _ _ _ _).alloc _).trans m2
  clear g2 m2 HC
  go_wp2_with fail
  go_ret
  exact ⟨rfl, p2, ws2, ns2, HG2.out, HM2.out⟩
def sg_bits : List ByteArray := [⟨#[124]⟩]
set_option maxRecDepth 100000 in
set_option maxHeartbeats 4000000 in
theorem bits_C {w : World} {pb base b o cap g lc : Nat} {par : Par} {ws : List ByteArray} (h : Ex w pb base b o cap g lc zsC tsC 6 par ws []) (ho : par.open_ = 1) :
    Calls Tryz.prog 93 #[.pointer (some ⟨pb, 0, none⟩)] w fun e w' => e = .returned (.int .i64 4) ∧ ∃ par' ws' ns', Fv w' pb base b o cap g lc par' ws' ns' 10 ∧ Me pb base w par w' par' := by
  have HX := Lib.hid h
  have HEn : Hid (Enters Tryz.prog 99) := enters_of Tryz.func99 (by kernel_rfl) rfl
  have hmf : ∀ (fn : Fn) (first cap : Array Value) (w : World), (Instr.makeFunc fn first cap).run Tryz.prog w = .ok (.func fn first cap) w := fun _ _ _ _ => rfl
  clear h
  go_enter Tryz.func93, Tryz.ntmps93
  go_wp2_with fail
  have HC := chain_no (w := w.alloc (.cells #[.string ⟨#[124]⟩] 9)) (pb := pb) (base := base) (b := b) (o := o) (cap := cap) (g := g) (lc := lc) (zs := zsC) (ts := tsC) (sg := w.heap.size) (ss := sg_bits) (par := par) (r := 4) (k := 11)
    (G := fun w1 p1 ws1 ns1 => Fv w1 pb base b o cap g lc p1 ws1 ns1 9) (G' := fun w1 p1 ws1 ns1 => Fv w1 pb base b o cap g lc p1 ws1 ns1 10)
    HEn.out (xors_C (HX.out.alloc _) ho)
    (fun w1 p1 ws1 ns1 h1 => ⟨h1.ex, by rw [h1.len]; decide⟩)
    (fun w1 p1 ws1 ns1 w2 wv h1 h2 h3 => h1.more h2 h3)
    (Sgn.new HX.out sg_bits _ (fun i hi => by match i, hi with | 0, _ => rfl) _) (by decide) (by decide) (by decide) (by decide) (by decide)
  refine HC.mono ?_
  rintro e w2 ⟨rfl, p2, ws2, ns2, g2, m2⟩
  have HG2 := Lib.hid g2
  have HM2 : Hid (Me pb base w par w2 p2) := ((Me.refl _ _ _ _).alloc _).trans m2
  clear g2 m2 HC
  go_wp2_with fail
  go_ret
  exact ⟨rfl, p2, ws2, ns2, HG2.out, HM2.out⟩
def sg_expr : List ByteArray := [⟨#[61, 61]⟩, ⟨#[33, 61]⟩, ⟨#[60]⟩, ⟨#[60, 61]⟩, ⟨#[62]⟩, ⟨#[62, 61]⟩]
set_option maxRecDepth 100000 in
set_option maxHeartbeats 4000000 in
theorem expr_C {w : World} {pb base b o cap g lc : Nat} {par : Par} {ws : List ByteArray} (h : Ex w pb base b o cap g lc zsC tsC 6 par ws []) (ho : par.open_ = 1) :
    Calls Tryz.prog 89 #[.pointer (some ⟨pb, 0, none⟩)] w fun e w' => e = .returned (.int .i64 4) ∧ ∃ par' ws' ns', Fv w' pb base b o cap g lc par' ws' ns' 16 ∧ Me pb base w par w' par' := by
  have HC := Lib.hid (bits_C h ho)
  clear h
  go_enter Tryz.func89, Tryz.ntmps89
  go_wp2_with fail
  refine HC.out.mono ?_
  rintro e w1 ⟨rfl, p1, ws1, ns1, g1, m1⟩
  have HG1 := Lib.hid g1
  have HM1 : Hid (Me pb base w par (w1.alloc (.cells #[.string ⟨#[61, 61]⟩, .string ⟨#[33, 61]⟩, .string ⟨#[60]⟩, .string ⟨#[60, 61]⟩, .string ⟨#[62]⟩, .string ⟨#[62, 61]⟩] 9)) p1) := m1.alloc _
  have HS1 : Hid (Sgn (w1.alloc (.cells #[.string ⟨#[61, 61]⟩, .string ⟨#[33, 61]⟩, .string ⟨#[60]⟩, .string ⟨#[60, 61]⟩, .string ⟨#[62]⟩, .string ⟨#[62, 61]⟩] 9)) pb p1 w1.heap.size sg_expr) := Sgn.new g1.ex sg_expr _ (fun i hi => by match i, hi with | 0, _ => rfl | 1, _ => rfl | 2, _ => rfl | 3, _ => rfl | 4, _ => rfl | 5, _ => rfl) _
  have HX1 : Hid (Fv (w1.alloc (.cells #[.string ⟨#[61, 61]⟩, .string ⟨#[33, 61]⟩, .string ⟨#[60]⟩, .string ⟨#[60, 61]⟩, .string ⟨#[62]⟩, .string ⟨#[62, 61]⟩] 9)) pb base b o cap g lc p1 ws1 ns1 10) := ⟨g1.ex.alloc _, g1.op_, g1.len, by obtain ⟨kb, kc, e, h1, h2⟩ := g1.kids; exact ⟨kb, kc, e, h1.me ((Me.refl pb base w1 p1).alloc _), h2.me ((Me.refl pb base w1 p1).alloc _)⟩⟩
  clear g1 m1 HC
  go_wp2_with fail
  refine (takesOne_no (ss := sg_expr) HX1.out.ex (by decide) (by decide) (by decide) (by decide) HS1.out (by rw [HX1.out.len]; decide) (by decide)).mono ?_
  rintro e w2 ⟨rfl, wv, x2, m2⟩
  have HF : Hid (Fv w2 pb base b o cap g lc { p1 with words := wv } (ws1 ++ sg_expr) ns1 16) := HX1.out.more x2 m2
  have HM2 : Hid (Me pb base w par w2 { p1 with words := wv }) := HM1.out.trans m2
  clear x2 m2
  go_wp2_with fail
  go_ret
  exact ⟨rfl, _, _, ns1, HF.out, HM2.out⟩
end Go.Proofs.YtmkibolkcjallaaGreatDoor
/- needs, word where expressions are kept; what is left but for an item. Own work. -/
namespace Go.Proofs.YtmkibolkcjallaaGreatDoor
open Go.RowKit Sc
theorem needs_yesE {w : World} {pb base b o cap g lc : Nat} {zs : List Nat} {ts : List Tok} {k : Nat} {par : Par} {ws : List ByteArray} {ns : List Nd} (t : ByteArray) (h : Ex w pb base b o cap g lc zs ts k par ws ns) (hk : k < ts.length) (hp : ts[k].at_ < ts[k].end_) (hq : ts[k].end_ ≤ zs.length) (hzt : mkS (lexB zs ts[k]) = t) (ho : 0 ≤ par.open_ ∧ par.open_ ≤ 1000) (ho2 : openN (ts[k].kind : Int) par.open_ ≤ 32) (hl : ws.length ≤ 1000) :
    Calls Tryz.prog 15 #[.pointer (some ⟨pb, 0, none⟩), .string t] w fun e w' => e = .returned (.tuple #[]) ∧ ∃ v wv, Ex w' pb base b o cap g lc zs ts (k + 1) (par.past ts[k] v wv) [] ns ∧ Me pb base w par w' (par.past ts[k] v wv) := by
  have hx := h.rt.lx hk hp hq
  have hn := hx.words_ne
  obtain ⟨c0, c1, c2, _, _⟩ := h.rt.tk.2 k hk
  have ht := tailV_list (g := g) hk h.rt.room
  refine (needs_this t h.rt.parB hx.next hx.sl ⟨h.rt.apart.1, h.rt.apart.2, hn.1, hn.2.1⟩ hzt (by have := h.rt.room; omega) c0 c1 c2 ho ho2 h.rt.own hn.2.2 hl h.rt.top).mono ?_
  rintro e w' ⟨rfl, wv, h1, h2, h3, h4⟩
  obtain ⟨x, y⟩ := h.lexed (par' := par.past ts[k] (tailV g (k * 5) (ts.length - k) (lc - k)) wv) rfl ⟨rfl, rfl, rfl, rfl, rfl, rfl, rfl⟩ h3 h4 (h.rt.of (Mv.of h.rt.own h4) h1 rfl ht.1 ht.2 h2)
  exact ⟨rfl, _, wv, x, y⟩
theorem word_yesE {w : World} {pb base b o cap g lc : Nat} {zs : List Nat} {ts : List Tok} {k : Nat} {par : Par} {ws : List ByteArray} {ns : List Nd} (h : Ex w pb base b o cap g lc zs ts k par ws ns) (hk : k < ts.length) (hkind : ts[k].kind = 1) (ho : 0 ≤ par.open_ ∧ par.open_ ≤ 32) :
    Calls Tryz.prog 16 #[.pointer (some ⟨pb, 0, none⟩)] w fun e w' => e = .returned (refV (mkS ts[k].s) (ts[k].at_ : Int) (.slice none 0 0)) ∧ ∃ v wv, Ex w' pb base b o cap g lc zs ts (k + 1) (par.past ts[k] v wv) [] ns ∧ Me pb base w par w' (par.past ts[k] v wv) := by
  obtain ⟨c0, c1, c2, c3, c4⟩ := h.rt.tk.2 k hk
  rw [hkind] at c0
  have hpw : par.words.ownBlock ≠ some pb := fun e => by have := h.rt.own.lt _ e; have := h.rt.low; omega
  obtain ⟨wa, wc, hw⟩ := h.rt.own.form
  have ht := tailV_list (g := g) hk h.rt.room
  refine (word_this h.rt.parB (h.rt.list hk) (by omega) (by have := h.rt.room; omega) hw h.rt.apart.1 c0 c1 c2 c3 c4 ho).mono ?_
  rintro e w' ⟨rfl, h1, h4⟩
  have h4' : Keeps (fun k => k = pb ∨ par.words.ownBlock = some k) w w' := h4.mono (fun _ _ => .inl)
  have hob : (Value.slice wa 0 wc).ownBlock = par.words.ownBlock := by rw [hw]; exact own_same wa 0 ws.length wc
  have ho' : OwnS w' base (.slice wa 0 wc) [] := by
    have := h.rt.own
    rw [hw] at this
    exact (this.keeps h4 (fun i hi e => by subst e; exact hpw (by rw [hw]; exact hi))).empty
  have e : { par with list := tailV g (k * 5) (ts.length - k) (lc - k), kind := 1, n := (ts[k].n : Int), s := mkS ts[k].s, at_ := (ts[k].at_ : Int), till := (ts[k].end_ : Int), words := .slice wa 0 wc, naming := false } = par.past ts[k] (tailV g (k * 5) (ts.length - k) (lc - k)) (.slice wa 0 wc) := by
    simp [Par.past, hkind, openN]
  rw [e] at h1
  obtain ⟨x, y⟩ := h.lexed (par' := par.past ts[k] (tailV g (k * 5) (ts.length - k) (lc - k)) (.slice wa 0 wc)) rfl ⟨rfl, rfl, rfl, rfl, rfl, rfl, rfl⟩ ⟨by rw [show (Par.past par ts[k] (tailV g (k * 5) (ts.length - k) (lc - k)) (.slice wa 0 wc)).words = .slice wa 0 wc from rfl, hob]; exact hpw, .inl hob⟩ h4' (h.rt.of (Mv.of h.rt.own h4') h1 rfl ht.1 ht.2 ho')
  exact ⟨rfl, _, _, x, y⟩
/-- the same as Me, but for one block more -/
structure Mx (pb base xb : Nat) (w : World) (p : Par) (w' : World) (p' : Par) : Prop where
  keeps : Keeps (fun k => k = pb ∨ base ≤ k) w w'
  stay : ∀ k, k < w.heap.size → k ≠ pb → k ≠ xb → p.words.ownBlock ≠ some k → p.items.ownBlock ≠ some k → w'.heap[k]? = w.heap[k]? ∧ p'.words.ownBlock ≠ some k ∧ p'.items.ownBlock ≠ some k
  idle : Idle p p'
theorem Me.mx {pb base : Nat} {w w' : World} {p p' : Par} (h : Me pb base w p w' p') (xb : Nat) : Mx pb base xb w p w' p' := ⟨h.keeps, fun k h1 h2 _ h3 h4 => h.stay k h1 h2 h3 h4, h.idle⟩
theorem Mx.trans {pb base xb : Nat} {a b c : World} {p q r : Par} (h : Mx pb base xb a p b q) (k : Mx pb base xb b q c r) : Mx pb base xb a p c r :=
  ⟨h.keeps.trans k.keeps (fun _ _ h => h), fun i h1 h2 h5 h3 h4 => by
    obtain ⟨x1, x2, x3⟩ := h.stay i h1 h2 h5 h3 h4
    obtain ⟨y1, y2, y3⟩ := k.stay i (Nat.lt_of_lt_of_le h1 h.keeps.size) h2 h5 x2 x3
    exact ⟨y1.trans x1, y2, y3⟩, h.idle.trans k.idle⟩
theorem Mx.set {pb base xb : Nat} {a b : World} {p q : Par} (h : Mx pb base xb a p b q) (hx : base ≤ xb) (i : Nat) (v : Value) : Mx pb base xb a p (b.setCell ⟨xb, i, none⟩ v) q :=
  h.trans ⟨(Keeps.setCell b xb i v).mono (fun _ _ e => by subst e; exact .inr hx), fun k _ _ h5 h3 h4 => ⟨Below.heap_setCell _ _ _ _ h5, h3, h4⟩, Idle.refl q⟩
/-- a block of one's own -/
structure Xb (w : World) (pb base : Nat) (p : Par) (xb : Nat) (cs : Array Value) : Prop where
  row : w.heap[xb]? = some (.cells cs 40 (0, 0))
  lo : base ≤ xb
  ne : xb ≠ pb
  words : p.words.ownBlock ≠ some xb
  items : p.items.ownBlock ≠ some xb
theorem Xb.lt {w : World} {pb base : Nat} {p : Par} {xb : Nat} {cs : Array Value} (h : Xb w pb base p xb cs) : xb < w.heap.size := (Array.getElem?_eq_some_iff.1 h.row).1
theorem Xb.me {w w' : World} {pb base : Nat} {p p' : Par} {xb : Nat} {cs : Array Value} (h : Xb w pb base p xb cs) (m : Me pb base w p w' p') : Xb w' pb base p' xb cs := by
  obtain ⟨x, y, z⟩ := m.stay xb h.lt h.ne h.words h.items
  exact ⟨x.trans h.row, h.lo, h.ne, y, z⟩
theorem Xb.mx {w w' : World} {pb base yb : Nat} {p p' : Par} {xb : Nat} {cs : Array Value} (h : Xb w pb base p xb cs) (m : Mx pb base yb w p w' p') (hy : xb ≠ yb) : Xb w' pb base p' xb cs := by
  obtain ⟨x, y, z⟩ := m.stay xb h.lt h.ne hy h.words h.items
  exact ⟨x.trans h.row, h.lo, h.ne, y, z⟩
theorem Xb.cell {w : World} {pb base : Nat} {p : Par} {xb : Nat} {cs : Array Value} (h : Xb w pb base p xb cs) (i : Nat) {v : Value} (e : cs[i]? = some v) : w.cell? ⟨xb, i, none⟩ = some v := by
  rw [cell_of_row _ _ i _ _ _ h.row, e]
theorem Xb.thawed {w : World} {pb base : Nat} {p : Par} {xb : Nat} {cs : Array Value} (h : Xb w pb base p xb cs) (i : Nat) : w.frozen? ⟨xb, i, none⟩ = false := by
  simp [World.frozen?, h.row]
theorem Xb.set {w : World} {pb base : Nat} {p : Par} {xb : Nat} {cs cs' : Array Value} {i : Nat} {v : Value} (h : Xb w pb base p xb cs) (e : cs' = cs.setIfInBounds i v) : Xb (w.setCell ⟨xb, i, none⟩ v) pb base p xb cs' := by
  refine ⟨?_, h.lo, h.ne, h.words, h.items⟩
  have := h.row
  subst e
  simp [World.setCell, Array.getElem?_modify, this]
/-- an Ex stands where a block beside it is written -/
theorem Ex.set {w : World} {pb base b o cap g lc : Nat} {zs : List Nat} {ts : List Tok} {k : Nat} {par : Par} {ws : List ByteArray} {ns : List Nd} {xb : Nat} {cs : Array Value} (h : Ex w pb base b o cap g lc zs ts k par ws ns) (x : Xb w pb base par xb cs) (i : Nat) (v : Value) : Ex (w.setCell ⟨xb, i, none⟩ v) pb base b o cap g lc zs ts k par ws ns := by
  have k1 : Keeps (fun k => k = xb) w (w.setCell ⟨xb, i, none⟩ v) := Keeps.setCell w xb i v
  refine ⟨h.rt.of' (k1.mono (fun _ _ e => by subst e; exact .inr x.lo)) (h.rt.parB.keeps k1 (fun e => x.ne e.symm)) rfl h.rt.list h.rt.done (h.rt.own.keeps k1 (fun j hj e => by subst e; exact x.words hj)), h.nd.keeps k1 (fun j hj e => by subst e; exact x.items hj)⟩
end Go.Proofs.YtmkibolkcjallaaGreatDoor
/- value, constant: an item's expression. Own work. -/
namespace Go.Proofs.YtmkibolkcjallaaGreatDoor
open Go.RowKit Go.Shelf Sc
/-- an item: its kind, its place, its name, its expressions -/
def itC (kd ps : Int) (s : ByteArray) (a : Int) (e : Value) : Array Value := #[.int .i64 kd, .int .i64 ps, .string s, .int .i64 a, .slice none 0 0, .string ⟨#[]⟩, .int .i64 0, .slice none 0 0, .string ⟨#[]⟩, .int .i64 0, .slice none 0 0, .string ⟨#[]⟩, .int .i64 0, .slice none 0 0, .slice none 0 0, e, .int .i64 0, .int .i64 0, .string ⟨#[]⟩, .slice none 0 0, .slice none 0 0]
/-- append of one number to no list, in a region that draws -/
theorem step_appK {w : World} {ops : Array Oper} {o : Oper} {a : Act} {K : Act → World → Prop} {Q : Exit → Act → World → Prop} {E : Prop} (hw : Region.wanted o (yielded ops a.tmps) = true) (s x : Operand)
    (ho : o.op = .call { callee := .builtin .append, args := #[s, x], argTypes := #[22, 22] }) {y : Int} {g cap : Nat} (hs : a.eval s = .slice none 0 0) (hx : a.eval x = .slice (some ⟨g, 0, none⟩) 1 cap) (h0 : w.cell? ⟨g, 0, none⟩ = some (.int .i64 y))
    (h : ∀ va vc w', w.grownBy w' none → K (a.put o.dst (.slice va 1 vc)) w') : if Region.wanted o (yielded ops a.tmps) = true then Oper.wp Tryz.prog o a w K Q else E := by
  rw [if_pos hw]
  obtain ⟨i, hi, hz0, hz1, hz2⟩ := info_parts info_intK
  obtain ⟨v', w', a1, a2, a3, _⟩ := run_append_own_at (P := Tryz.prog) w w.heap.size 22 o.type 3 i (.int .i64 0) 1 8 Tryz.underlying22 hi hz0 hz1 hz2 rfl (by omega) (.slice none 0 0) 0 [] ⟨rfl, .inl ⟨rfl, rfl⟩⟩ ⟨g, 0, none⟩ 1 cap [.int .i64 y] rfl (fun j u hj => by
    rw [Addr.add_lit, Nat.zero_add]
    match j, hj with
    | 0, hj => rw [h0]; exact hj) (by intro u hu; obtain rfl := List.mem_singleton.1 hu; rfl) (by unfold maxLen; omega) (by omega) (Nat.le_refl _)
  obtain ⟨va, vc, rfl⟩ : ∃ va vc, v' = .slice va 1 vc := by
    rcases a2.2 with ⟨_, h0⟩ | ⟨g, cap, cur, rfl, _⟩
    · omega
    · exact ⟨_, _, rfl⟩
  unfold Oper.wp execOp
  simp only [ho, resolve, invoke, builtin, Sem.run_bind, Sem.run_pure, Result.andThen_ok, List.map_toArray, List.map_cons, List.map_nil, hs, hx, a1]
  exact h va vc w' a3
/-- the same in a plain region -/
theorem wpList_appK1 {ops : Array Oper} {rest : List Oper} {o : Oper} {a : Act} {w : World} {Q : Exit → Act → World → Prop} (hgd : o.guard = none) (s x : Operand)
    (ho : o.op = .call { callee := .builtin .append, args := #[s, x], argTypes := #[22, 22] }) {y : Int} {g cap : Nat} (hs : a.eval s = .slice none 0 0) (hx : a.eval x = .slice (some ⟨g, 0, none⟩) 1 cap) (h0 : w.cell? ⟨g, 0, none⟩ = some (.int .i64 y))
    (h : ∀ va vc w', w.grownBy w' none → wpList Tryz.prog ops Q rest (a.put o.dst (.slice va 1 vc)) w') : wpList Tryz.prog ops Q (o :: rest) a w :=
  wpList_plain hgd fun K hK => by
    have := step_appK (ops := ops) (w := w) (o := o) (a := a) (K := K) (Q := Q) (E := False) (y := y) (cap := cap) (by simp [Region.wanted, hgd]) s x ho hs hx h0 (fun va vc w' hg => hK _ _ (h va vc w' hg))
    rwa [if_pos (by simp [Region.wanted, hgd])] at this
theorem Me.grown {pb base : Nat} {a b c : World} {p q : Par} (h : Me pb base a p b q) (hg : b.grownBy c none) : Me pb base a p c q :=
  h.trans ⟨(Keeps.of_grown hg).mono (fun _ _ e => by cases e), fun k hk _ h1 h2 => ⟨hg.block k hk (fun e => by cases e), h1, h2⟩, Idle.refl q⟩
theorem Ex.me {w w' : World} {pb base b o cap g lc : Nat} {zs : List Nat} {ts : List Tok} {k : Nat} {par : Par} {ws : List ByteArray} {ns : List Nd} (h : Ex w pb base b o cap g lc zs ts k par ws ns) (hk : Keeps (fun _ => False) w w') : Ex w' pb base b o cap g lc zs ts k par ws ns :=
  ⟨h.rt.of' (hk.mono (fun _ _ e => e.elim)) (h.rt.parB.keeps hk id) rfl h.rt.list h.rt.done (h.rt.own.keeps hk (fun _ _ => id)), h.nd.keeps hk (fun _ _ => id)⟩
theorem Fv.still {w w' : World} {pb base b o cap g lc : Nat} {p : Par} {ws : List ByteArray} {ns : List Nd} {m : Nat} (h : Fv w pb base b o cap g lc p ws ns m) (hk : Keeps (fun _ => False) w w') (me : Me pb base w p w' p) : Fv w' pb base b o cap g lc p ws ns m :=
  ⟨h.ex.me hk, h.op_, h.len, by obtain ⟨kb, kc, e, h1, h2⟩ := h.kids; exact ⟨kb, kc, e, h1.me me, h2.me me⟩⟩
theorem Kd.set {w : World} {pb : Nat} {par : Par} {kb xb i : Nat} {x y : Int} {v : Value} (h : Kd w pb par kb x y) (hne : kb ≠ xb) : Kd (w.setCell ⟨xb, i, none⟩ v) pb par kb x y :=
  ⟨(World.cell?_of_block (a := ⟨kb, 0, none⟩) (Below.heap_setCell _ _ _ _ hne)).trans h.c0, (World.cell?_of_block (a := ⟨kb, 1, none⟩) (Below.heap_setCell _ _ _ _ hne)).trans h.c1, h.pb_, h.words, h.items, Nat.lt_of_lt_of_le h.lt (Keeps.setCell w xb i v).size⟩
set_option maxRecDepth 100000 in
set_option maxHeartbeats 4000000 in
theorem value_C {w : World} {pb base b o cap g lc xb : Nat} {par : Par} {ws : List ByteArray} {kd ps a0 : Int} {s0 : ByteArray} (h : Ex w pb base b o cap g lc zsC tsC 6 par ws []) (ho : par.open_ = 1) (hx : Xb w pb base par xb (itC kd ps s0 a0 (.slice none 0 0))) (hkd : kd ≠ 0) (hps : ps ≠ 2) :
    Calls Tryz.prog 74 #[.pointer (some ⟨pb, 0, none⟩), .pointer (some ⟨xb, 0, none⟩)] w fun e w' => e = .returned (.tuple #[]) ∧ ∃ par' ws' ns' va vc, Fv w' pb base b o cap g lc par' ws' ns' 16 ∧ Mx pb base xb w par w' par' ∧ Xb w' pb base par' xb (itC kd ps s0 a0 (.slice va 1 vc)) := by
  have HX := Lib.hid h
  have HXb := Lib.hid hx
  have HEe : Hid (Enters Tryz.prog 89) := enters_of Tryz.func89 (by kernel_rfl) rfl
  have HC : Hid (Calls Tryz.prog 89 #[.pointer (some ⟨pb, 0, none⟩)] w.drew fun e w' => ∃ u, e = .returned u ∧ u = .int .i64 4 ∧ Hid (∃ par' ws' ns', Fv w' pb base b o cap g lc par' ws' ns' 16 ∧ Me pb base w par w' par' ∧ Xb w' pb base par' xb (itC kd ps s0 a0 (.slice none 0 0)))) := by
    refine (expr_C h.drew ho).mono ?_
    rintro e w' ⟨rfl, p', ws', ns', x1, x2⟩
    have m : Me pb base w par w' p' := (Me.refl _ _ _ _).drew.trans x2
    exact ⟨_, rfl, rfl, p', ws', ns', x1, m, hx.me m⟩
  have c15 := hx.cell 15 (v := .slice none 0 0) rfl
  have hxl := hx.lt
  clear h hx
  go_enter Tryz.func74, Tryz.ntmps74
  go_wp2_with fail
  have HEnd : Hid (∀ (w4 w5 : World) (X : Obj), Hid (∃ par' ws' ns', Fv w4 pb base b o cap g lc par' ws' ns' 16 ∧ Me pb base w par w4 par' ∧ Xb w4 pb base par' xb (itC kd ps s0 a0 (.slice none 0 0))) → (w4.alloc X).grownBy w5 none → ∃ par' ws' ns', Fv w5 pb base b o cap g lc par' ws' ns' 16 ∧ Me pb base w par w5 par' ∧ Xb w5 pb base par' xb (itC kd ps s0 a0 (.slice none 0 0))) := fun w4 w5 X hz hg => by
    obtain ⟨p', ws', ns', f, m, x⟩ := hz.out
    have k : Keeps (fun _ => False) w4 w5 := (Keeps.alloc w4 X).trans ((Keeps.of_grown hg).mono (fun _ _ e => by cases e)) (fun _ _ e => e)
    have m2 : Me pb base w4 p' w5 p' := ((Me.refl _ _ _ _).alloc X).grown hg
    exact ⟨p', ws', ns', f.still k m2, m.trans m2, x.me m2⟩
  have HC3 : Hid (∀ (w2 : World) (z : Int), (w2.alloc (Obj.cells #[Value.int IntKind.i64 z] 3)).cell? ⟨w2.heap.size, 0, none⟩ = some (.int .i64 z)) := fun w2 z => box_cell (heap_alloc_new w2 _)
  go_region_law (first | (refine step_call3 (by kernel_rfl) 89 #[.tmp 9] #[57] (by rfl) HEe.out #[.pointer (some ⟨pb, 0, none⟩)] (by simp [Act.eval, Act.put]) HC.out ?_; intro u w4 hR; obtain ⟨hu, HZ⟩ := hR; rw [hu]; clear hu; have c15' := (HZ.out.choose_spec.choose_spec.choose_spec.2.2).cell 15 (v := .slice none 0 0) rfl; have hxl' := (HZ.out.choose_spec.choose_spec.choose_spec.2.2).lt) | (refine step_appK (y := 4) (cap := 1) (by kernel_rfl) (.tmp 8) (.tmp 11) (by rfl) (by rfl) (by rfl) (by exact HC3.out _ 4) ?_; intro va vc w5 hg5; have HE := Lib.hid (HEnd.out _ _ _ HZ hg5); have d15 := (HE.out.choose_spec.choose_spec.choose_spec.2.2).cell 15 (v := .slice none 0 0) rfl; have z15 := (HE.out.choose_spec.choose_spec.choose_spec.2.2).thawed 15; clear hg5))
  all_goals
    go_wp2_with fail
    go_end0
    obtain ⟨p', ws', ns', f, m, x⟩ := HE.out
    have x2 : Xb (w5.setCell ⟨xb, 15, none⟩ (.slice va 1 vc)) pb base p' xb (itC kd ps s0 a0 (.slice va 1 vc)) := x.set rfl
    have hne : ∀ kb y z, Kd w5 pb p' kb y z → kb ≠ xb → Kd (w5.setCell ⟨xb, 15, none⟩ (.slice va 1 vc)) pb p' kb y z := fun kb y z hk hn => hk.set hn
    refine ⟨rfl, p', ws', ns', va, vc, ⟨f.ex.set x _ _, f.op_, f.len, ?_⟩, (m.mx xb).set x.lo _ _, x2⟩
    obtain ⟨kb, kc, e, h1, h2⟩ := f.kids
    refine ⟨kb, kc, e, hne _ _ _ h1 ?_, hne _ _ _ h2 ?_⟩
    · intro e
      subst e
      have := (x.cell 1 (v := .int .i64 ps) rfl).symm.trans h1.c1
      simp at this
      exact hps this
    · intro e
      subst e
      have := (x.cell 0 (v := .int .i64 kd) rfl).symm.trans h2.c0
      simp at this
      exact hkd this
end Go.Proofs.YtmkibolkcjallaaGreatDoor
/- constant; keep. Own work. -/
namespace Go.Proofs.YtmkibolkcjallaaGreatDoor
open Go.RowKit Go.Shelf Sc
/-- behind the item's expression -/
structure Fz (w : World) (pb base b o cap g lc k : Nat) (p : Par) (ns : List Nd) : Prop where
  ex : Ex w pb base b o cap g lc zsC tsC k p [] ns
  kids : ∃ kb kc, ns = [nC0, nC1, nC2, nC3 kb, nC4 kc] ∧ Kd w pb p kb 1 2 ∧ Kd w pb p kc 0 3
set_option maxRecDepth 100000 in
set_option maxHeartbeats 4000000 in
theorem constant_C {w : World} {pb base b o cap g lc xb : Nat} {par : Par} {ws : List ByteArray} {kd ps : Int} (h : Ex w pb base b o cap g lc zsC tsC 4 par ws []) (ho : par.open_ = 1) (hx : Xb w pb base par xb (itC kd ps ⟨#[]⟩ 0 (.slice none 0 0))) (hkd : kd ≠ 0) (hps : ps ≠ 2) :
    Calls Tryz.prog 67 #[.pointer (some ⟨pb, 0, none⟩), .pointer (some ⟨xb, 0, none⟩)] w fun e w' => e = .returned (.tuple #[]) ∧ ∃ par' ns' va vc, Fz w' pb base b o cap g lc 12 par' ns' ∧ par'.open_ = 1 ∧ Mx pb base xb w par w' par' ∧ Xb w' pb base par' xb (itC kd ps ⟨#[97]⟩ 17 (.slice va 1 vc)) := by
  have HC := Lib.hid (word_yesE h (by decide) (by decide) (by rw [ho]; decide))
  have HXb := Lib.hid hx
  have HO : Hid (par.open_ = 1) := ho
  clear h hx ho
  go_enter Tryz.func67, Tryz.ntmps67
  go_wp2_with fail
  refine HC.out.mono ?_
  rintro e w1 ⟨rfl, v1, u1, h1, m1⟩
  have H1 := Lib.hid h1
  have HX1 := Lib.hid (HXb.out.me m1)
  have HM1 := Lib.hid (m1.mx xb)
  have c2 := HX1.out.cell 2 (v := .string ⟨#[]⟩) rfl
  have c3 := HX1.out.cell 3 (v := .int .i64 0) rfl
  have c4 := HX1.out.cell 4 (v := .slice none 0 0) rfl
  have z2 := HX1.out.thawed 2
  have z3 := HX1.out.thawed 3
  have z4 := HX1.out.thawed 4
  clear h1 m1 HC
  unfold refV
  rw [show mkS tsC[4].s = (⟨#[97]⟩ : ByteArray) by kernel_rfl, show ((tsC[4].at_ : Nat) : Int) = 17 by kernel_rfl]
  go_wp2_with fail
  have HX2 : Hid (Xb (((w1.setCell ⟨xb, 2, none⟩ (.string ⟨#[97]⟩)).setCell ⟨xb, 3, none⟩ (.int .i64 17)).setCell ⟨xb, 4, none⟩ (.slice none 0 0)) pb base (par.past tsC[4] v1 u1) xb (itC kd ps ⟨#[97]⟩ 17 (.slice none 0 0))) := ((HX1.out.set rfl).set rfl).set rfl
  have H2 : Hid (Ex (((w1.setCell ⟨xb, 2, none⟩ (.string ⟨#[97]⟩)).setCell ⟨xb, 3, none⟩ (.int .i64 17)).setCell ⟨xb, 4, none⟩ (.slice none 0 0)) pb base b o cap g lc zsC tsC 5 (par.past tsC[4] v1 u1) [] []) := ((H1.out.set HX1.out _ _).set (HX1.out.set rfl) _ _).set ((HX1.out.set rfl).set rfl) _ _
  have HM2 : Hid (Mx pb base xb w par (((w1.setCell ⟨xb, 2, none⟩ (.string ⟨#[97]⟩)).setCell ⟨xb, 3, none⟩ (.int .i64 17)).setCell ⟨xb, 4, none⟩ (.slice none 0 0)) (par.past tsC[4] v1 u1)) := ((HM1.out.set HX1.out.lo _ _).set HX1.out.lo _ _).set HX1.out.lo _ _
  obtain ⟨W2, hW2⟩ : ∃ W2, (((w1.setCell ⟨xb, 2, none⟩ (.string ⟨#[97]⟩)).setCell ⟨xb, 3, none⟩ (.int .i64 17)).setCell ⟨xb, 4, none⟩ (.slice none 0 0)) = W2 := ⟨_, rfl⟩
  rw [hW2] at HX2 H2 HM2 ⊢
  clear hW2 c2 c3 c4 z2 z3 z4 HX1 H1 HM1
  obtain ⟨p2, hp2⟩ : ∃ p2, par.past tsC[4] v1 u1 = p2 := ⟨_, rfl⟩
  have HO2 : Hid (p2.open_ = 1) := show _ = _ by rw [← hp2]; simp [Par.past, openN, HO.out, tsC]
  rw [hp2] at HX2 H2 HM2
  clear hp2
  refine (needs_yesE ⟨#[61]⟩ H2.out (by decide) (by decide) (by decide) (by kernel_rfl) (by rw [HO2.out]; decide) (by rw [HO2.out]; decide) (by decide)).mono ?_
  rintro e w3 ⟨rfl, v3, u3, h3, m3⟩
  have HX3 := Lib.hid (HX2.out.me m3)
  have HM3 := Lib.hid (HM2.out.trans (m3.mx xb))
  have H3 := Lib.hid h3
  have HO3 : Hid ((p2.past tsC[5] v3 u3).open_ = 1) := show _ = _ by simp [Par.past, openN, HO2.out, tsC]
  clear h3 m3 HX2 H2 HM2
  go_wp2_with fail
  refine (value_C H3.out HO3.out HX3.out hkd hps).mono ?_
  rintro e w4 ⟨rfl, p4, ws4, ns4, va, vc, f4, m4, x4⟩
  have HF4 := Lib.hid f4
  have HM4 := Lib.hid (HM3.out.trans m4)
  have HX4 := Lib.hid x4
  clear f4 m4 x4 HX3 H3 HM3
  go_wp2_with fail
  refine (needs_yesE ⟨#[59]⟩ HF4.out.ex (by decide) (by decide) (by decide) (by kernel_rfl) (by rw [HF4.out.op_]; decide) (by rw [HF4.out.op_]; decide) (by rw [HF4.out.len]; decide)).mono ?_
  rintro e w5 ⟨rfl, v5, u5, h5, m5⟩
  have HZ : Hid (Fz w5 pb base b o cap g lc 12 (p4.past tsC[11] v5 u5) ns4) := ⟨h5, by obtain ⟨kb, kc, e, h1, h2⟩ := HF4.out.kids; exact ⟨kb, kc, e, h1.me m5, h2.me m5⟩⟩
  have HM5 := Lib.hid (HM4.out.trans (m5.mx xb))
  have HX5 := Lib.hid (HX4.out.me m5)
  have HO5 : Hid ((p4.past tsC[11] v5 u5).open_ = 1) := show _ = _ by simp [Par.past, openN, HF4.out.op_, tsC]
  clear h5 m5
  go_wp2_with fail
  go_end0
  exact ⟨rfl, _, ns4, va, vc, HZ.out, HO5.out, HM5.out, HX5.out⟩
theorem build_item (k p : Int) (w : World) : (Instr.build 40 #[(0, .int .i64 k), (1, .int .i64 p)]).run Tryz.prog w = .ok (.agg (itC k p ⟨#[]⟩ 0 (.slice none 0 0))) w := by kernel_rfl
theorem info_item : (Tryz.prog.info? 40).map (·.size) = some 21 := by kernel_rfl
theorem info_item2 : (Tryz.prog.info? 40).map (fun i => (i.zero, i.size, i.bytes)) = some (some (.agg (itC 0 0 ⟨#[]⟩ 0 (.slice none 0 0))), 21, 336) := by kernel_rfl
theorem itC_one (kd ps : Int) (s : ByteArray) (a : Int) (va : Option Addr) (n c : Nat) : (itC kd ps s a (.slice va n c)).all (·.oneCell') = true := by kernel_rfl
theorem wpList_buildI {ops : Array Oper} {rest : List Oper} {o : Oper} {ac : Act} {w : World} {Q : Exit → Act → World → Prop} (hgd : o.guard = none) (x y : Operand) (ho : o.op = .build 40 #[(0, x), (1, y)]) {k p : Int} (hx : ac.eval x = .int .i64 k) (hy : ac.eval y = .int .i64 p) (hk : wpList Tryz.prog ops Q rest (ac.put o.dst (.agg (itC k p ⟨#[]⟩ 0 (.slice none 0 0)))) w) : wpList Tryz.prog ops Q (o :: rest) ac w :=
  wpList_plain hgd fun K hK => by
    unfold Oper.wp execOp
    simp only [ho, List.map_toArray, List.map_cons, List.map_nil, hx, hy, Sem.run_bind, Sem.run_pure, build_item, Result.andThen_ok]
    exact hK _ _ hk
theorem wpList_storeI {ops : Array Oper} {rest : List Oper} {o : Oper} {ac : Act} {w : World} {z : Array Value} {Q : Exit → Act → World → Prop} (hgd : o.guard = none) (hd : o.dst = none) (x y : Operand) (ho : o.op = .store 40 x y) {k p : Int} (hx : ac.eval x = .pointer (some ⟨w.heap.size, 0, none⟩)) (hy : ac.eval y = .agg (itC k p ⟨#[]⟩ 0 (.slice none 0 0))) (hz : z.size = 21) (hk : wpList Tryz.prog ops Q rest ac (w.alloc (.cells (itC k p ⟨#[]⟩ 0 (.slice none 0 0)) 40))) : wpList Tryz.prog ops Q (o :: rest) ac (w.alloc (.cells z 40)) :=
  wpList_plain hgd fun K hK => by
    have hr := run_storeAt_new (P := Tryz.prog) w 40 z (itC k p ⟨#[]⟩ 0 (.slice none 0 0)) (by rw [info_item]; rfl) (by rw [hz]; rfl) (itC_one _ _ _ _ _ _ _)
    unfold Oper.wp execOp
    simp only [ho, hx, hy, Sem.run_bind, Sem.run_pure, Result.andThen_ok, hr]
    rw [Oper.upon_skip, hd]
    exact hK _ _ hk
/-- an item is read -/
theorem run_loadI {w : World} {xb : Nat} {c : Array Value} (hh : w.heap[xb]? = some (.cells c 40 (0, 0))) (hc : c.size = 21) : (Instr.loadAt 40 (.pointer (some ⟨xb, 0, none⟩))).run Tryz.prog w = .ok (.agg c) w := by
  simp only [Instr.loadAt, Instr.sureAddr, Sem.run_bind, Sem.run_pure, Result.andThen_ok, run_loadVar_row (P := Tryz.prog) w xb 40 40 c (0, 0) _ hh Tryz.underlying40 rfl (by rw [info_item, hc])]
theorem step_loadI {w : World} {ops : Array Oper} {o : Oper} {a : Act} {K : Act → World → Prop} {Q : Exit → Act → World → Prop} {E : Prop} (hw : Region.wanted o (yielded ops a.tmps) = true) (x : Operand) (ho : o.op = .load 40 x) {xb : Nat} {c : Array Value} (hx : a.eval x = .pointer (some ⟨xb, 0, none⟩)) (hh : w.heap[xb]? = some (.cells c 40 (0, 0))) (hc : c.size = 21) (h : K (a.put o.dst (.agg c)) w) : if Region.wanted o (yielded ops a.tmps) = true then Oper.wp Tryz.prog o a w K Q else E := by
  rw [if_pos hw]
  unfold Oper.wp execOp
  simp only [ho, hx, Sem.run_bind, Sem.run_pure, Result.andThen_ok, run_loadI hh hc]
  exact h
theorem run_bsI {w : World} (kd ps : Int) (s : ByteArray) (a : Int) (va : Option Addr) (n c : Nat) : (Instr.buildSlice 25 1 #[(0, .agg (itC kd ps s a (.slice va n c)))]).run Tryz.prog w = .ok (.slice (some ⟨w.heap.size, 0, none⟩) 1 1) (w.alloc (.cells (itC kd ps s a (.slice va n c)) 40)) := by kernel_rfl
/-- append of one item to no list -/
theorem step_appI {w : World} {ops : Array Oper} {o : Oper} {a : Act} {K : Act → World → Prop} {Q : Exit → Act → World → Prop} {E : Prop} (hw : Region.wanted o (yielded ops a.tmps) = true) (s x : Operand)
    (ho : o.op = .call { callee := .builtin .append, args := #[s, x], argTypes := #[25, 25] }) {g cap : Nat} {c : Array Value} (hs : a.eval s = .slice none 0 0) (hx : a.eval x = .slice (some ⟨g, 0, none⟩) 1 cap) (hh : w.heap[g]? = some (.cells c 40 (0, 0))) (hc : c.size = 21) (h1 : c.all (·.oneCell') = true)
    (h : ∀ gi ic cur w', w.grownBy w' none → w.heap.size ≤ gi → w'.heap[gi]? = some (.cells cur 40 (0, 0)) → 21 ≤ cur.size → (∀ j, j < 21 → cur[j]? = c[j]?) → K (a.put o.dst (.slice (some ⟨gi, 0, none⟩) 1 ic)) w') : if Region.wanted o (yielded ops a.tmps) = true then Oper.wp Tryz.prog o a w K Q else E := by
  rw [if_pos hw]
  obtain ⟨i, hi, hz0, hz1, hz2⟩ := info_parts info_item2
  obtain ⟨v', w', a1, a2, a3, _⟩ := run_append_own_at (P := Tryz.prog) w w.heap.size 25 o.type 40 i (.agg (itC 0 0 ⟨#[]⟩ 0 (.slice none 0 0))) 21 336 Tryz.underlying25 hi hz0 hz1 hz2 rfl (by omega) (.slice none 0 0) 0 [] ⟨rfl, .inl ⟨rfl, rfl⟩⟩ ⟨g, 0, none⟩ 1 cap c.toList (by simp [hc]) (fun j u hj => by
    rw [Addr.add_lit, Nat.zero_add, cell_of_row _ _ _ _ _ _ hh]
    simpa using hj) (fun v hv => (Array.all_eq_true_iff_forall_mem.1 h1) v (by simpa using hv)) (by unfold maxLen; omega) (by omega) (Nat.le_refl _)
  obtain ⟨gi, ic, cur, rfl, hb, hg, _, _, hcs, hcl⟩ : ∃ gi ic cur, v' = .slice (some ⟨gi, 0, none⟩) 1 ic ∧ w.heap.size ≤ gi ∧ w'.heap[gi]? = some (.cells cur 40 (0, 0)) ∧ 1 ≤ ic ∧ ic ≤ maxLen ∧ cur.size = ic * 21 ∧ cur.toList.take (1 * 21) = [] ++ c.toList := by
    rcases a2.2 with ⟨_, h0⟩ | ⟨g, cap, cur, e, h2⟩
    · omega
    · exact ⟨g, cap, cur, e, h2⟩
  unfold Oper.wp execOp
  simp only [ho, resolve, invoke, builtin, Sem.run_bind, Sem.run_pure, Result.andThen_ok, List.map_toArray, List.map_cons, List.map_nil, hs, hx, a1]
  refine h gi ic cur w' a3 hb hg (by omega) (fun j hj => ?_)
  rw [← Array.getElem?_toList, ← Array.getElem?_toList, ← List.nil_append c.toList, ← hcl, List.getElem?_take_of_lt (by omega)]
theorem step_bsI {w : World} {ops : Array Oper} {o : Oper} {a : Act} {K : Act → World → Prop} {Q : Exit → Act → World → Prop} {E : Prop} (hw : Region.wanted o (yielded ops a.tmps) = true) (x : Operand) (ho : o.op = .buildSlice 25 1 #[(0, x)]) {kd ps a0 : Int} {s : ByteArray} {va : Option Addr} {n c : Nat} (hx : a.eval x = .agg (itC kd ps s a0 (.slice va n c))) (h : K (a.put o.dst (.slice (some ⟨w.heap.size, 0, none⟩) 1 1)) (w.alloc (.cells (itC kd ps s a0 (.slice va n c)) 40))) : if Region.wanted o (yielded ops a.tmps) = true then Oper.wp Tryz.prog o a w K Q else E := by
  rw [if_pos hw]
  unfold Oper.wp execOp
  simp only [ho, List.map_toArray, List.map_cons, List.map_nil, hx, Sem.run_bind, Sem.run_pure, run_bsI, Result.andThen_ok]
  exact h
theorem keeps_setCells (b : Nat) : ∀ (vs : List Value) (o : Nat) (w : World), Keeps (fun k => k = b) w (w.setCells b o vs)
  | [], _, w => Keeps.refl _ w
  | v :: r, o, w => (Keeps.setCell w b o v).trans (keeps_setCells b r (o + 1) _) (fun _ _ h => h)
theorem loadI_exec {o : Oper} {a : Act} {w : World} {x : Operand} {xb : Nat} {c : Array Value} (ho : o.op = .load 40 x) (hx : a.eval x = .pointer (some ⟨xb, 0, none⟩)) (hh : w.heap[xb]? = some (.cells c 40 (0, 0))) (hc : c.size = 21) : (execOp a.eval o).run Tryz.prog w = .ok (.value (.agg c)) w := by
  unfold execOp
  simp only [ho, hx, Sem.run_bind, Sem.run_pure, Result.andThen_ok, run_loadI hh hc]
theorem storeI_exec {o : Oper} {a : Act} {w : World} {x y : Operand} {gi : Nat} {c cur : Array Value} (ho : o.op = .store 40 x y) (hx : a.eval x = .pointer (some ⟨gi, 0, none⟩)) (hy : a.eval y = .agg c) (hh : w.heap[gi]? = some (.cells cur 40 (0, 0))) (hl : 21 ≤ cur.size) (hc : c.size = 21) (h1 : c.all (·.oneCell') = true) : (execOp a.eval o).run Tryz.prog w = .ok .skip (w.setCells gi 0 c.toList) := by
  have ht : w.there gi 0 c.size := fun j hj => by
    refine ⟨?_, by simp [World.frozen?, hh]⟩
    rw [cell_of_row _ _ _ _ _ _ hh, Nat.zero_add, Array.getElem?_eq_getElem (by omega)]
    rfl
  have hr := run_storeAt_mid (P := Tryz.prog) w gi 0 40 c ht (by rw [info_item, hc]) h1
  unfold execOp
  simp only [ho, hx, hy, Sem.run_bind, Sem.run_pure, Result.andThen_ok, hr]
/-- what a reader of items leaves of the parser -/
def Idl (p q : Par) : Prop := q.whole = p.whole ∧ q.pos = p.pos ∧ q.word = p.word ∧ q.wat = p.wat ∧ q.index = p.index ∧ q.nodes = p.nodes
theorem Idl.refl (p : Par) : Idl p p := ⟨rfl, rfl, rfl, rfl, rfl, rfl⟩
theorem Idl.trans {p q r : Par} (h : Idl p q) (k : Idl q r) : Idl p r := ⟨k.1.trans h.1, k.2.1.trans h.2.1, k.2.2.1.trans h.2.2.1, k.2.2.2.1.trans h.2.2.2.1, k.2.2.2.2.1.trans h.2.2.2.2.1, k.2.2.2.2.2.trans h.2.2.2.2.2⟩
theorem Idle.idl {p q : Par} (h : Idle p q) : Idl p q := ⟨h.1, h.2.1, h.2.2.1, h.2.2.2.1, h.2.2.2.2.1, h.2.2.2.2.2.2⟩
/-- behind the item -/
structure Kp (w : World) (pb base b o cap g lc k : Nat) (p : Par) (ns : List Nd) (gi ic : Nat) : Prop where
  z : Fz w pb base b o cap g lc k p ns
  top : p.top = .slice (some ⟨gi, 0, none⟩) 1 ic
  item : Kd w pb p gi 1 11
theorem Kp.me {w w' : World} {pb base b o cap g lc k k' : Nat} {p p' : Par} {ns : List Nd} {gi ic : Nat} (h : Kp w pb base b o cap g lc k p ns gi ic) (x : Ex w' pb base b o cap g lc zsC tsC k' p' [] ns) (m : Me pb base w p w' p') : Kp w' pb base b o cap g lc k' p' ns gi ic :=
  ⟨⟨x, by obtain ⟨kb, kc, e, h1, h2⟩ := h.z.kids; exact ⟨kb, kc, e, h1.me m, h2.me m⟩⟩, m.idle.2.2.2.2.2.1.trans h.top, h.item.me m⟩
theorem Kd.mx {w w' : World} {pb base xb : Nat} {par par' : Par} {kb : Nat} {x y : Int} (h : Kd w pb par kb x y) (m : Mx pb base xb w par w' par') (hne : kb ≠ xb) : Kd w' pb par' kb x y := by
  obtain ⟨e, a, b⟩ := m.stay kb h.lt h.pb_ hne h.words h.items
  exact ⟨(World.cell?_of_block (a := ⟨kb, 0, none⟩) e).trans h.c0, (World.cell?_of_block (a := ⟨kb, 1, none⟩) e).trans h.c1, h.pb_, a, b, Nat.lt_of_lt_of_le h.lt m.keeps.size⟩
theorem Kd.keeps {w w' : World} {pb : Nat} {par : Par} {kb : Nat} {x y : Int} {S : Nat → Prop} (h : Kd w pb par kb x y) (k : Keeps S w w') (hn : ¬ S kb) : Kd w' pb par kb x y := by
  have e := k.block kb h.lt hn
  exact ⟨(World.cell?_of_block (a := ⟨kb, 0, none⟩) e).trans h.c0, (World.cell?_of_block (a := ⟨kb, 1, none⟩) e).trans h.c1, h.pb_, h.words, h.items, Nat.lt_of_lt_of_le h.lt k.size⟩
theorem Ex.beside {w w' : World} {pb base b o cap g lc : Nat} {zs : List Nat} {ts : List Tok} {k : Nat} {par : Par} {ws : List ByteArray} {ns : List Nd} {xb : Nat} {cs : Array Value} (h : Ex w pb base b o cap g lc zs ts k par ws ns) (x : Xb w pb base par xb cs) (k1 : Keeps (fun k => k = xb) w w') : Ex w' pb base b o cap g lc zs ts k par ws ns :=
  ⟨h.rt.of' (k1.mono (fun _ _ e => by subst e; exact .inr x.lo)) (h.rt.parB.keeps k1 (fun e => x.ne e.symm)) rfl h.rt.list h.rt.done (h.rt.own.keeps k1 (fun j hj e => by subst e; exact x.words hj)), h.nd.keeps k1 (fun j hj e => by subst e; exact x.items hj)⟩
theorem Ex.put18 {w : World} {pb base b o cap g lc : Nat} {zs : List Nat} {ts : List Tok} {k : Nat} {par : Par} {ws : List ByteArray} {ns : List Nd} (h : Ex w pb base b o cap g lc zs ts k par ws ns) (v : Value) : Ex (w.setCell ⟨pb, 18, none⟩ v) pb base b o cap g lc zs ts k { par with top := v } ws ns :=
  ⟨h.rt.put rfl rfl rfl rfl, h.nd.keeps (Keeps.setCell w pb 18 v) (fun j hj e => by have := h.nd.lt j hj; have := h.rt.low; omega)⟩
theorem Ex.putI {w : World} {pb base b o cap g lc i : Nat} {zs : List Nat} {ts : List Tok} {k : Nat} {par par' : Par} {v : Value} {ws : List ByteArray} {ns : List Nd} (h : Ex w pb base b o cap g lc zs ts k par ws ns) (e : par'.cells = par.cells.setIfInBounds i v) (e1 : par'.src = par.src) (e2 : par'.list = par.list) (e3 : par'.words = par.words) (e4 : par'.items = par.items) : Ex (w.setCell ⟨pb, i, none⟩ v) pb base b o cap g lc zs ts k par' ws ns :=
  ⟨h.rt.put e e1 e2 e3, by rw [e4]; exact h.nd.keeps (Keeps.setCell w pb i v) (fun j hj e => by have := h.nd.lt j hj; have := h.rt.low; omega)⟩
theorem Kd.par {w : World} {pb : Nat} {p q : Par} {kb : Nat} {x y : Int} (h : Kd w pb p kb x y) (e1 : q.words = p.words) (e2 : q.items = p.items) : Kd w pb q kb x y := ⟨h.c0, h.c1, h.pb_, by rw [e1]; exact h.words, by rw [e2]; exact h.items, h.lt⟩
theorem takeA {P : Program} {md : Region.Mode} {ops : Array Oper} {Q : Exit → Act → World → Prop} {i d : Nat} {oi : Oper} {v : Value} {fuel : Nat} {listed : Array Bool} {a : Act} {w : World} (hi : ops[i]? = some oi) (hd : oi.dst = some d)
    (hs : Region.noSelect ops = true) (hf : Region.free md ops listed i = true) (hr : (Region.ready md ops listed).contains i = true)
    (hQ : ∀ c a w, Q (.panic c) (a.put (some d) v) w → Q (.panic c) a w) (hy : Yields P ops oi v a)
    (h : wpAny P md ops Q fuel (listed.setIfInBounds i true) (a.put (some d) v) w) : wpAny P md ops Q (fuel + 1) listed a w := by
  rw [← hd] at h hQ
  exact wpAny_take hi hs hf hr hQ hy h
end Go.Proofs.YtmkibolkcjallaaGreatDoor
/- keep. Own work. -/
namespace Go.Proofs.YtmkibolkcjallaaGreatDoor
open Go.RowKit Go.Shelf Sc
theorem keep_end {w w3 w4 W5 : World} {pb base b o cap g lc xb gi ic : Nat} {par p4 : Par} {ns4 : List Nd} {cur : Array Value} {va : Option Addr} {vc : Nat} (hz : Fz w4 pb base b o cap g lc 12 p4 ns4) (ho : p4.open_ = 1) (hm : Mx pb base xb w3 { par with top := .slice (some ⟨gi, 0, none⟩) 1 ic } w4 p4) (hgx : Xb w4 pb base p4 gi cur) (hgk : Kd w4 pb p4 gi 1 11) (ht : p4.top = .slice (some ⟨gi, 0, none⟩) 1 ic) (hcs : 21 ≤ cur.size) (hk : Keeps (fun k => k = gi) w4 W5) (hw : W5 = w4.drew.setCells gi 0 (itC 1 11 ⟨#[97]⟩ 17 (.slice va 1 vc)).toList) (hs : Keeps (fun k => k = pb ∨ base ≤ k) w w3) :
    ∃ par' ns' gi ic, Kp W5 pb base b o cap g lc 12 par' ns' gi ic ∧ par'.open_ = 1 ∧ Idl par par' ∧ Keeps (fun k => k = pb ∨ base ≤ k) w W5 := by
  have hsome : ∀ j, j < (itC 1 11 ⟨#[97]⟩ 17 (.slice va 1 vc)).toList.length → (w4.drew.cell? ⟨gi, 0 + j, none⟩).isSome = true := fun j hj => by
    have hj' : j < 21 := hj
    have : w4.drew.cell? ⟨gi, 0 + j, none⟩ = cur[0 + j]? := cell_of_row _ _ _ _ _ _ hgx.row
    rw [this, Array.getElem?_eq_getElem (by omega)]
    rfl
  have hc := World.cell?_setCells_in gi (itC 1 11 ⟨#[97]⟩ 17 (.slice va 1 vc)).toList 0 w4.drew hsome
  refine ⟨p4, ns4, gi, ic, ⟨⟨hz.ex.beside hgx hk, ?_⟩, ht, ?_⟩, ho, (show Idl par { par with top := .slice (some ⟨gi, 0, none⟩) 1 ic } from ⟨rfl, rfl, rfl, rfl, rfl, rfl⟩).trans hm.idle.idl, (hs.trans hm.keeps (fun _ _ e => e)).trans (hk.mono (fun _ _ e => by subst e; exact .inr hgx.lo)) (fun _ _ e => e)⟩
  · obtain ⟨kb, kc, e, h1, h2⟩ := hz.kids
    refine ⟨kb, kc, e, h1.keeps hk (fun e => ?_), h2.keeps hk (fun e => ?_)⟩
    · subst e
      have := hgk.c1.symm.trans h1.c1
      simp at this
    · subst e
      have := hgk.c0.symm.trans h2.c0
      simp at this
  · rw [hw]
    exact ⟨hc 0 (show 0 < 21 by omega), hc 1 (show 1 < 21 by omega), hgk.pb_, hgk.words, hgk.items, Nat.lt_of_lt_of_le hgk.lt (hw ▸ hk.size)⟩
theorem run_ldI {w : World} {ad : Addr} {va : Option Addr} {n c : Nat} (h : w.cell? ad = some (.slice va n c)) : (loadVar 25 ad).run Tryz.prog w = .ok (.slice va n c) w := by simp [go_sem, h]
theorem run_stI {w : World} {ad : Addr} {v : Value} {va : Option Addr} {n c : Nat} (h : w.cell? ad = some v) (hz : w.frozen? ad = false) : (storeVar 25 ad (.slice va n c)).run Tryz.prog w = .ok () (w.setCell ad (.slice va n c)) := by simp [go_sem, h, hz]
/-- one cell is read; one is written -/
theorem step_load1 {w : World} {ops : Array Oper} {o : Oper} {a : Act} {K : Act → World → Prop} {Q : Exit → Act → World → Prop} {E : Prop} (hw : Region.wanted o (yielded ops a.tmps) = true) (t : TypeId) (x : Operand) (ho : o.op = .load t x) {ad : Addr} {v : Value} (hx : a.eval x = .pointer (some ad)) (hl : (loadVar t ad).run Tryz.prog w = .ok v w) (h : K (a.put o.dst v) w) : if Region.wanted o (yielded ops a.tmps) = true then Oper.wp Tryz.prog o a w K Q else E := by
  rw [if_pos hw]
  unfold Oper.wp execOp
  simp only [ho, hx, Instr.loadAt, Instr.sureAddr, Sem.run_bind, Sem.run_pure, Result.andThen_ok, hl]
  exact h
theorem store1_exec {o : Oper} {a : Act} {w w' : World} {x y : Operand} {t : TypeId} {ad : Addr} {v : Value} (ho : o.op = .store t x y) (hx : a.eval x = .pointer (some ad)) (hy : a.eval y = v) (hl : (storeVar t ad v).run Tryz.prog w = .ok () w') : (execOp a.eval o).run Tryz.prog w = .ok .skip w' := by
  unfold execOp
  simp only [ho, hx, hy, Instr.storeAt, Instr.sureAddr, Sem.run_bind, Sem.run_pure, Result.andThen_ok, hl]
theorem readySkipA {P : Program} {md : Region.Mode} {ops : Array Oper} {Q : Exit → Act → World → Prop} {i : Nat} {o : Oper} {fuel : Nat} {listed : Array Bool} {a : Act} {w w' : World} {rs : List Nat} (hi : ops[i]? = some o) (hd : o.dst = none) (hw : Region.wanted o (yielded ops a.tmps) = true) (hv : (execOp a.eval o).run P w = .ok .skip w')
    (hK : wpAny P md ops Q fuel (listed.setIfInBounds i true) a w') (hs : AllReady P md ops Q fuel listed a w rs) : AllReady P md ops Q fuel listed a w (i :: rs) := by
  refine AllReady.cons hi (fun K hK' => ?_) hs
  rw [if_pos hw]
  unfold Oper.wp
  rw [hv, Oper.upon_skip, hd]
  exact hK' _ _ hK
set_option linter.unusedSimpArgs false in
set_option maxRecDepth 100000 in
set_option maxHeartbeats 4000000 in
theorem keep_C {w : World} {pb base b o cap g lc : Nat} {par : Par} {ws : List ByteArray} (h : Ex w pb base b o cap g lc zsC tsC 4 par ws []) (ho : par.open_ = 1) (hat : par.at_ = 11) (ht : par.top = .slice none 0 0) :
    Calls Tryz.prog 30 #[.pointer (some ⟨pb, 0, none⟩), .int .i64 1, .func (.func 67) #[.pointer (some ⟨pb, 0, none⟩)] #[]] w fun e w' => e = .returned (.tuple #[]) ∧ ∃ par' ns' gi ic, Kp w' pb base b o cap g lc 12 par' ns' gi ic ∧ par'.open_ = 1 ∧ Idl par par' ∧ Keeps (fun k => k = pb ∨ base ≤ k) w w' := by
  have HX := Lib.hid h
  have HO : Hid (par.open_ = 1) := ho
  have HT : Hid (par.top = .slice none 0 0) := ht
  have c7 := h.rt.parB.cell 7 (v := .int .i64 par.at_) rfl
  rw [hat] at c7
  have c18 := h.rt.parB.cell 18 (v := par.top) rfl
  rw [ht] at c18
  have hpl := h.rt.parB.lt
  have HEc : ∀ (args : Array Value) (w : World), (callFunc 67 args).run Tryz.prog w = .ok (.enter 67 args) w := enters_of Tryz.func67 (by kernel_rfl) rfl
  clear h ho hat ht
  go_enter Tryz.func30, Tryz.ntmps30
  go_wp2_with (first | (refine wpList_buildI (k := 1) (p := 11) (by rfl) (.tmp 8) (.tmp 14) (by rfl) (by rfl) (by rfl) ?_) | (refine wpList_storeI (k := 1) (p := 11) (by rfl) (by rfl) (.tmp 6) (.tmp 15) (by rfl) (by rfl) (by rfl) (by rfl) ?_))
  have HXb1 : Hid (Xb (w.alloc (.cells (itC 1 11 ⟨#[]⟩ 0 (.slice none 0 0)) 40)) pb base par w.heap.size (itC 1 11 ⟨#[]⟩ 0 (.slice none 0 0))) := ⟨heap_alloc_new w _, HX.out.rt.top, fun e => by omega, fun e => by have := HX.out.rt.own.lt _ e; omega, fun e => by have := HX.out.nd.lt _ e; omega⟩
  have HX1 : Hid (Ex (w.alloc (.cells (itC 1 11 ⟨#[]⟩ 0 (.slice none 0 0)) 40)) pb base b o cap g lc zsC tsC 4 par ws []) := HX.out.alloc _
  have HM1 : Hid (Me pb base w par (w.alloc (.cells (itC 1 11 ⟨#[]⟩ 0 (.slice none 0 0)) 40)) par) := (Me.refl _ _ _ _).alloc _
  have hsz1 : w.heap.size < (w.alloc (.cells (itC 1 11 ⟨#[]⟩ 0 (.slice none 0 0)) 40)).heap.size := by simp
  generalize w.alloc (.cells (itC 1 11 ⟨#[]⟩ 0 (.slice none 0 0)) 40) = W1 at HXb1 HX1 HM1 hsz1 ⊢
  obtain ⟨xb, hxb⟩ : ∃ xb, w.heap.size = xb := ⟨_, rfl⟩
  rw [hxb] at HXb1 hsz1 ⊢
  clear c7 c18 hpl
  have c18 := HX1.out.rt.parB.cell 18 (v := par.top) rfl
  rw [HT.out] at c18
  have hpl := HX1.out.rt.parB.lt
  have hl5 : (loadVar 25 ⟨pb, 18, none⟩).run Tryz.prog W1.drew = .ok (.slice none 0 0) W1.drew := run_ldI c18
  have hl5' : ∀ X, (loadVar 25 ⟨pb, 18, none⟩).run Tryz.prog (W1.drew.alloc X) = .ok (.slice none 0 0) (W1.drew.alloc X) := fun X =>
    run_ldI ((World.cell?_alloc_lt _ _ _ hpl).trans c18)
  have HAp : Hid (∀ (X : Obj) (w2 : World), (W1.drew.alloc X).grownBy w2 none → Keeps (fun _ => False) W1 w2) := fun X w2 hg => ((Keeps.refl _ _).drew.trans (Keeps.alloc W1.drew X) (fun _ _ e => e)).trans ((Keeps.of_grown hg).mono (fun _ _ e => by cases e)) (fun _ _ e => e)
  refine wp_region_any (by kernel_rfl) ?_
  change wpAny _ _ _ _ _ _ _ (World.drew _)
  simp only [List.size_toArray, List.length_cons, List.length_nil]
  refine takeA (i := 0) (d := 22) (v := .pointer (some ⟨pb, 0, none⟩)) rfl rfl (by kernel_rfl) (by kernel_rfl) (by kernel_rfl) (fun _ _ _ h => h) (Or.inl ⟨by kernel_rfl, by intro w; go_simp⟩) ?_
  refine takeA (i := 1) (d := 23) (v := .pointer (some ⟨pb, 0, none⟩)) rfl rfl (by kernel_rfl) (by kernel_rfl) (by kernel_rfl) (fun _ _ _ h => h) (Or.inl ⟨by kernel_rfl, by intro w; go_simp⟩) ?_
  refine takeA (i := 2) (d := 24) (v := .pointer (some ⟨pb, 0, none⟩)) rfl rfl (by kernel_rfl) (by kernel_rfl) (by kernel_rfl) (fun _ _ _ h => h) (Or.inl ⟨by kernel_rfl, by intro w; go_simp⟩) ?_
  refine takeA (i := 3) (d := 25) (v := .pointer (some ⟨pb, 14, none⟩)) rfl rfl (by kernel_rfl) (by kernel_rfl) (by kernel_rfl) (fun _ _ _ h => h) (Or.inl ⟨by kernel_rfl, by intro w; go_simp⟩) ?_
  refine takeA (i := 4) (d := 26) (v := .pointer (some ⟨pb, 18, none⟩)) rfl rfl (by kernel_rfl) (by kernel_rfl) (by kernel_rfl) (fun _ _ _ h => h) (Or.inl ⟨by kernel_rfl, by intro w; go_simp⟩) ?_
  simp only [Act.put, List.setIfInBounds_toArray, List.set_cons_succ, List.set_cons_zero]
  refine wpAny_ready (rs := [5, 6]) (by kernel_rfl) (by simp) ?_
  refine AllReady.cons rfl (fun K hK => ?_) ?_
  case refine_1 =>
    refine step_load1 (by kernel_rfl) 25 (.tmp 26) (by rfl) (ad := ⟨pb, 18, none⟩) (v := .slice none 0 0) (by simp [Act.eval, Act.put]) hl5 ?_
    refine hK _ _ ?_
    clear hK K
    simp only [Act.put, List.setIfInBounds_toArray, List.set_cons_succ, List.set_cons_zero]
    refine wpAny_ready (rs := [6]) (by kernel_rfl) (by simp) ?_
    refine AllReady.cons rfl (fun K hK => ?_) AllReady.nil
    refine step_loadI (by kernel_rfl) (.tmp 6) (by rfl) (by rfl) (by exact HXb1.out.row) (by rfl) ?_
    refine hK _ _ ?_
    clear hK K
    simp only [Act.put, List.setIfInBounds_toArray, List.set_cons_succ, List.set_cons_zero]
    refine wpAny_ready (rs := [7]) (by kernel_rfl) (by simp) ?_
    refine AllReady.cons rfl (fun K hK => ?_) AllReady.nil
    refine step_bsI (kd := 1) (ps := 11) (s := ⟨#[]⟩) (a0 := 0) (va := none) (n := 0) (c := 0) (by kernel_rfl) (.tmp 28) (by rfl) (by rfl) ?_
    refine hK _ _ ?_
    clear hK K
    simp only [Act.put, List.setIfInBounds_toArray, List.set_cons_succ, List.set_cons_zero]
    refine wpAny_ready (rs := [8]) (by kernel_rfl) (by simp) ?_
    refine AllReady.cons rfl (fun K hK => ?_) AllReady.nil
    refine step_appI (cap := 1) (by kernel_rfl) (.tmp 27) (.tmp 29) (by rfl) (by rfl) (by rfl) (by exact heap_alloc_new W1.drew _) (by rfl) (itC_one _ _ _ _ _ _ _) ?_
    intro gi ic cur w2 hg2 hge hrow hcs hcu
    refine hK _ _ ?_
    clear hK K
    simp only [Act.put, List.setIfInBounds_toArray, List.set_cons_succ, List.set_cons_zero]
    have HK2 := Lib.hid (HAp.out _ _ hg2)
    have HP2 : Hid (ParB w2 pb par) := HX1.out.rt.parB.keeps HK2.out id
    have c12 := HP2.out.cell 18 (v := par.top) rfl
    rw [HT.out] at c12
    have z12 := HP2.out.thawed 18
    have hl12 : (storeVar 25 ⟨pb, 18, none⟩ (.slice (some ⟨gi, 0, none⟩) 1 ic)).run Tryz.prog w2 = .ok () (w2.setCell ⟨pb, 18, none⟩ (.slice (some ⟨gi, 0, none⟩) 1 ic)) := run_stI c12 z12
    refine takeA (i := 9) (d := 31) (v := .pointer (some ⟨pb, 0, none⟩)) rfl rfl (by kernel_rfl) (by kernel_rfl) (by kernel_rfl) (fun _ _ _ h => h) (Or.inl ⟨by kernel_rfl, by intro w; go_simp⟩) ?_
    refine takeA (i := 10) (d := 32) (v := .pointer (some ⟨pb, 14, none⟩)) rfl rfl (by kernel_rfl) (by kernel_rfl) (by kernel_rfl) (fun _ _ _ h => h) (Or.inl ⟨by kernel_rfl, by intro w; go_simp⟩) ?_
    refine takeA (i := 11) (d := 33) (v := .pointer (some ⟨pb, 18, none⟩)) rfl rfl (by kernel_rfl) (by kernel_rfl) (by kernel_rfl) (fun _ _ _ h => h) (Or.inl ⟨by kernel_rfl, by intro w; go_simp⟩) ?_
    simp only [Act.put, List.setIfInBounds_toArray, List.set_cons_succ, List.set_cons_zero]
    refine wpAny_ready (rs := [12]) (by kernel_rfl) (by simp) ?_
    refine readySkipA (i := 12) (w' := w2.setCell ⟨pb, 18, none⟩ (.slice (some ⟨gi, 0, none⟩) 1 ic)) rfl rfl (by kernel_rfl) (store1_exec (x := .tmp 33) (y := .tmp 30) rfl (by simp [Act.eval]) (by simp [Act.eval]) hl12) ?_ AllReady.nil
    refine wpAny_done (by kernel_rfl) ?_ _
    clear c12 z12 hl12 HP2 hg2
    have HX3 : Hid (Ex (w2.setCell ⟨pb, 18, none⟩ (.slice (some ⟨gi, 0, none⟩) 1 ic)) pb base b o cap g lc zsC tsC 4 { par with top := .slice (some ⟨gi, 0, none⟩) 1 ic } ws []) := (HX1.out.me HK2.out).put18 _
    have hgi : W1.heap.size ≤ gi := Nat.le_trans (by simp) hge
    have HXb3 : Hid (Xb (w2.setCell ⟨pb, 18, none⟩ (.slice (some ⟨gi, 0, none⟩) 1 ic)) pb base { par with top := .slice (some ⟨gi, 0, none⟩) 1 ic } xb (itC 1 11 ⟨#[]⟩ 0 (.slice none 0 0))) := ⟨(Below.heap_setCell _ _ _ _ HXb1.out.ne).trans ((HK2.out.block xb HXb1.out.lt id).trans HXb1.out.row), HXb1.out.lo, HXb1.out.ne, HXb1.out.words, HXb1.out.items⟩
    have HGx3 : Hid (Xb (w2.setCell ⟨pb, 18, none⟩ (.slice (some ⟨gi, 0, none⟩) 1 ic)) pb base { par with top := .slice (some ⟨gi, 0, none⟩) 1 ic } gi cur) := ⟨(Below.heap_setCell _ _ _ _ (by show gi ≠ pb; omega)).trans hrow, Nat.le_trans HXb1.out.lo (by omega), by omega, fun e => by have := HX1.out.rt.own.lt _ e; omega, fun e => by have := HX1.out.nd.lt _ e; omega⟩
    have HGk3 : Hid (Kd (w2.setCell ⟨pb, 18, none⟩ (.slice (some ⟨gi, 0, none⟩) 1 ic)) pb { par with top := .slice (some ⟨gi, 0, none⟩) 1 ic } gi 1 11) := ⟨HGx3.out.cell 0 ((hcu 0 (by omega)).trans rfl), HGx3.out.cell 1 ((hcu 1 (by omega)).trans rfl), HGx3.out.ne, HGx3.out.words, HGx3.out.items, HGx3.out.lt⟩
    have HS3 : Hid (Keeps (fun k => k = pb ∨ base ≤ k) w (w2.setCell ⟨pb, 18, none⟩ (.slice (some ⟨gi, 0, none⟩) 1 ic))) := (HM1.out.keeps.trans (HK2.out.mono (fun _ _ e => e.elim)) (fun _ _ e => e)).trans ((Keeps.setCell _ _ _ _).mono (fun _ _ => .inl)) (fun _ _ e => e)
    have hgx : gi ≠ xb := by omega
    go_wp2_with fail
    refine (constant_C HX3.out HO.out HXb3.out (by decide) (by decide)).mono ?_
    rintro e w4 ⟨rfl, p4, ns4, va, vc, z4, o4, m4, x4⟩
    have HZ4 := Lib.hid z4
    have HO4 : Hid (p4.open_ = 1) := o4
    have HM4 := Lib.hid m4
    have HX4 := Lib.hid x4
    have HGx4 := Lib.hid (HGx3.out.mx m4 hgx)
    have HGk4 := Lib.hid (HGk3.out.mx m4 hgx)
    have HT4 : Hid (p4.top = .slice (some ⟨gi, 0, none⟩) 1 ic) := m4.idle.2.2.2.2.2.1
    have c18' := z4.ex.rt.parB.cell 18 (v := p4.top) rfl
    rw [HT4.out] at c18'
    clear z4 o4 m4 x4 HX3 HXb3 HGx3 HGk3 hrow hcu HK2 HXb1 HX1 HM1
    go_wp2_with fail
    refine wp_region_held_drew (S := fun W => W.heap[xb]? = some (.cells (itC 1 11 ⟨#[97]⟩ 17 (.slice va 1 vc)) 40 (0, 0)) ∧ W.cell? ⟨pb, 18, none⟩ = some (.slice (some ⟨gi, 0, none⟩) 1 ic)) (by kernel_rfl) ⟨HX4.out.row, c18'⟩ (fun hHeld => ?_)
    simp only [List.size_toArray, List.length_cons, List.length_nil]
    refine takeH (i := 0) (d := 36) (v := .pointer (some ⟨pb, 0, none⟩)) rfl rfl (by kernel_rfl) (by kernel_rfl) (by kernel_rfl) (fun _ _ _ h => h) (Or.inl ⟨by kernel_rfl, by intro w hSw; (try dsimp only at hSw); obtain ⟨s1, s2⟩ := hSw; go_simp⟩) (by assumption) ?_
    refine takeH (i := 1) (d := 37) (v := .pointer (some ⟨pb, 0, none⟩)) rfl rfl (by kernel_rfl) (by kernel_rfl) (by kernel_rfl) (fun _ _ _ h => h) (Or.inl ⟨by kernel_rfl, by intro w hSw; (try dsimp only at hSw); obtain ⟨s1, s2⟩ := hSw; go_simp⟩) (by assumption) ?_
    refine takeH (i := 2) (d := 38) (v := .pointer (some ⟨pb, 14, none⟩)) rfl rfl (by kernel_rfl) (by kernel_rfl) (by kernel_rfl) (fun _ _ _ h => h) (Or.inl ⟨by kernel_rfl, by intro w hSw; (try dsimp only at hSw); obtain ⟨s1, s2⟩ := hSw; go_simp⟩) (by assumption) ?_
    refine takeH (i := 3) (d := 39) (v := .pointer (some ⟨pb, 18, none⟩)) rfl rfl (by kernel_rfl) (by kernel_rfl) (by kernel_rfl) (fun _ _ _ h => h) (Or.inl ⟨by kernel_rfl, by intro w hSw; (try dsimp only at hSw); obtain ⟨s1, s2⟩ := hSw; go_simp⟩) (by assumption) ?_
    simp only [Act.put, List.setIfInBounds_toArray, List.set_cons_succ, List.set_cons_zero]
    refine takeH (i := 4) (d := 40) (v := .slice (some ⟨gi, 0, none⟩) 1 ic) rfl rfl (by kernel_rfl) (by kernel_rfl) (by kernel_rfl) (fun _ _ _ h => h) (Or.inl ⟨by kernel_rfl, by intro w hSw; (try dsimp only at hSw); obtain ⟨s1, s2⟩ := hSw; go_simp⟩) (by assumption) ?_
    refine takeH (i := 5) (d := 41) (v := .int .i64 0) rfl rfl (by kernel_rfl) (by kernel_rfl) (by kernel_rfl) (fun _ _ _ h => h) (Or.inl ⟨by kernel_rfl, by intro w hSw; (try dsimp only at hSw); obtain ⟨s1, s2⟩ := hSw; go_simp⟩) (by assumption) ?_
    simp only [Act.put, List.setIfInBounds_toArray, List.set_cons_succ, List.set_cons_zero]
    refine takeH (i := 6) (d := 42) (v := .agg (itC 1 11 ⟨#[97]⟩ 17 (.slice va 1 vc))) rfl rfl (by kernel_rfl) (by kernel_rfl) (by kernel_rfl) (fun _ _ _ h => h) (Or.inl ⟨by kernel_rfl, fun w hSw => loadI_exec (x := .tmp 6) rfl (by simp [Act.eval]) hSw.1 rfl⟩) (by assumption) ?_
    simp only [Act.put, List.setIfInBounds_toArray, List.set_cons_succ, List.set_cons_zero]
    refine takeH (i := 7) (d := 43) (v := .pointer (some ⟨gi, 0, none⟩)) rfl rfl (by kernel_rfl) (by kernel_rfl) (by kernel_rfl) (fun _ _ _ h => h) (Or.inl ⟨by kernel_rfl, by intro w hSw; (try dsimp only at hSw); obtain ⟨s1, s2⟩ := hSw; go_simp⟩) (by assumption) ?_
    simp only [Act.put, List.setIfInBounds_toArray, List.set_cons_succ, List.set_cons_zero]
    have HK5 : Hid (Keeps (fun k => k = gi) w4 (w4.drew.setCells gi 0 (itC 1 11 ⟨#[97]⟩ 17 (.slice va 1 vc)).toList)) := (Keeps.refl _ _).drew.trans (keeps_setCells gi _ 0 _) (fun _ _ e => e)
    refine wpAnyH_ready (rs := [8]) (by kernel_rfl) (by simp) ?_
    refine readySkip (i := 8) (w' := w4.drew.setCells gi 0 (itC 1 11 ⟨#[97]⟩ 17 (.slice va 1 vc)).toList) rfl rfl (by kernel_rfl) (storeI_exec (x := .tmp 43) (y := .tmp 42) rfl (by simp [Act.eval]) (by simp [Act.eval]) HGx4.out.row hcs rfl (itC_one _ _ _ _ _ _ _)) ⟨(HK5.out.block xb HX4.out.lt (fun e => hgx e.symm)).trans HX4.out.row, (World.cell?_setCells_out gi _ 0 _ ⟨pb, 18, none⟩ (fun e => absurd e (fun e => HGx4.out.ne e.symm))).trans c18'⟩ ?_ AllReadyH.nil
    refine wpAnyH_done (by kernel_rfl) ?_ _
    clear hHeld
    go_wp2_with fail
    go_end0
    exact ⟨rfl, keep_end HZ4.out HO4.out HM4.out HGx4.out HGk4.out HT4.out hcs HK5.out rfl HS3.out⟩
  case refine_2 =>
    refine AllReady.cons rfl (fun K hK => ?_) AllReady.nil
    refine step_loadI (by kernel_rfl) (.tmp 6) (by rfl) (by rfl) (by exact HXb1.out.row) (by rfl) ?_
    refine hK _ _ ?_
    clear hK K
    simp only [Act.put, List.setIfInBounds_toArray, List.set_cons_succ, List.set_cons_zero]
    refine wpAny_ready (rs := [5, 7]) (by kernel_rfl) (by simp) ?_
    refine AllReady.cons rfl (fun K hK => ?_) ?_
    case refine_1 =>
      refine step_load1 (by kernel_rfl) 25 (.tmp 26) (by rfl) (ad := ⟨pb, 18, none⟩) (v := .slice none 0 0) (by simp [Act.eval, Act.put]) hl5 ?_
      refine hK _ _ ?_
      clear hK K
      simp only [Act.put, List.setIfInBounds_toArray, List.set_cons_succ, List.set_cons_zero]
      refine wpAny_ready (rs := [7]) (by kernel_rfl) (by simp) ?_
      refine AllReady.cons rfl (fun K hK => ?_) AllReady.nil
      refine step_bsI (kd := 1) (ps := 11) (s := ⟨#[]⟩) (a0 := 0) (va := none) (n := 0) (c := 0) (by kernel_rfl) (.tmp 28) (by rfl) (by rfl) ?_
      refine hK _ _ ?_
      clear hK K
      simp only [Act.put, List.setIfInBounds_toArray, List.set_cons_succ, List.set_cons_zero]
      refine wpAny_ready (rs := [8]) (by kernel_rfl) (by simp) ?_
      refine AllReady.cons rfl (fun K hK => ?_) AllReady.nil
      refine step_appI (cap := 1) (by kernel_rfl) (.tmp 27) (.tmp 29) (by rfl) (by rfl) (by rfl) (by exact heap_alloc_new W1.drew _) (by rfl) (itC_one _ _ _ _ _ _ _) ?_
      intro gi ic cur w2 hg2 hge hrow hcs hcu
      refine hK _ _ ?_
      clear hK K
      simp only [Act.put, List.setIfInBounds_toArray, List.set_cons_succ, List.set_cons_zero]
      have HK2 := Lib.hid (HAp.out _ _ hg2)
      have HP2 : Hid (ParB w2 pb par) := HX1.out.rt.parB.keeps HK2.out id
      have c12 := HP2.out.cell 18 (v := par.top) rfl
      rw [HT.out] at c12
      have z12 := HP2.out.thawed 18
      have hl12 : (storeVar 25 ⟨pb, 18, none⟩ (.slice (some ⟨gi, 0, none⟩) 1 ic)).run Tryz.prog w2 = .ok () (w2.setCell ⟨pb, 18, none⟩ (.slice (some ⟨gi, 0, none⟩) 1 ic)) := run_stI c12 z12
      refine takeA (i := 9) (d := 31) (v := .pointer (some ⟨pb, 0, none⟩)) rfl rfl (by kernel_rfl) (by kernel_rfl) (by kernel_rfl) (fun _ _ _ h => h) (Or.inl ⟨by kernel_rfl, by intro w; go_simp⟩) ?_
      refine takeA (i := 10) (d := 32) (v := .pointer (some ⟨pb, 14, none⟩)) rfl rfl (by kernel_rfl) (by kernel_rfl) (by kernel_rfl) (fun _ _ _ h => h) (Or.inl ⟨by kernel_rfl, by intro w; go_simp⟩) ?_
      refine takeA (i := 11) (d := 33) (v := .pointer (some ⟨pb, 18, none⟩)) rfl rfl (by kernel_rfl) (by kernel_rfl) (by kernel_rfl) (fun _ _ _ h => h) (Or.inl ⟨by kernel_rfl, by intro w; go_simp⟩) ?_
      simp only [Act.put, List.setIfInBounds_toArray, List.set_cons_succ, List.set_cons_zero]
      refine wpAny_ready (rs := [12]) (by kernel_rfl) (by simp) ?_
      refine readySkipA (i := 12) (w' := w2.setCell ⟨pb, 18, none⟩ (.slice (some ⟨gi, 0, none⟩) 1 ic)) rfl rfl (by kernel_rfl) (store1_exec (x := .tmp 33) (y := .tmp 30) rfl (by simp [Act.eval]) (by simp [Act.eval]) hl12) ?_ AllReady.nil
      refine wpAny_done (by kernel_rfl) ?_ _
      clear c12 z12 hl12 HP2 hg2
      have HX3 : Hid (Ex (w2.setCell ⟨pb, 18, none⟩ (.slice (some ⟨gi, 0, none⟩) 1 ic)) pb base b o cap g lc zsC tsC 4 { par with top := .slice (some ⟨gi, 0, none⟩) 1 ic } ws []) := (HX1.out.me HK2.out).put18 _
      have hgi : W1.heap.size ≤ gi := Nat.le_trans (by simp) hge
      have HXb3 : Hid (Xb (w2.setCell ⟨pb, 18, none⟩ (.slice (some ⟨gi, 0, none⟩) 1 ic)) pb base { par with top := .slice (some ⟨gi, 0, none⟩) 1 ic } xb (itC 1 11 ⟨#[]⟩ 0 (.slice none 0 0))) := ⟨(Below.heap_setCell _ _ _ _ HXb1.out.ne).trans ((HK2.out.block xb HXb1.out.lt id).trans HXb1.out.row), HXb1.out.lo, HXb1.out.ne, HXb1.out.words, HXb1.out.items⟩
      have HGx3 : Hid (Xb (w2.setCell ⟨pb, 18, none⟩ (.slice (some ⟨gi, 0, none⟩) 1 ic)) pb base { par with top := .slice (some ⟨gi, 0, none⟩) 1 ic } gi cur) := ⟨(Below.heap_setCell _ _ _ _ (by show gi ≠ pb; omega)).trans hrow, Nat.le_trans HXb1.out.lo (by omega), by omega, fun e => by have := HX1.out.rt.own.lt _ e; omega, fun e => by have := HX1.out.nd.lt _ e; omega⟩
      have HGk3 : Hid (Kd (w2.setCell ⟨pb, 18, none⟩ (.slice (some ⟨gi, 0, none⟩) 1 ic)) pb { par with top := .slice (some ⟨gi, 0, none⟩) 1 ic } gi 1 11) := ⟨HGx3.out.cell 0 ((hcu 0 (by omega)).trans rfl), HGx3.out.cell 1 ((hcu 1 (by omega)).trans rfl), HGx3.out.ne, HGx3.out.words, HGx3.out.items, HGx3.out.lt⟩
      have HS3 : Hid (Keeps (fun k => k = pb ∨ base ≤ k) w (w2.setCell ⟨pb, 18, none⟩ (.slice (some ⟨gi, 0, none⟩) 1 ic))) := (HM1.out.keeps.trans (HK2.out.mono (fun _ _ e => e.elim)) (fun _ _ e => e)).trans ((Keeps.setCell _ _ _ _).mono (fun _ _ => .inl)) (fun _ _ e => e)
      have hgx : gi ≠ xb := by omega
      go_wp2_with fail
      refine (constant_C HX3.out HO.out HXb3.out (by decide) (by decide)).mono ?_
      rintro e w4 ⟨rfl, p4, ns4, va, vc, z4, o4, m4, x4⟩
      have HZ4 := Lib.hid z4
      have HO4 : Hid (p4.open_ = 1) := o4
      have HM4 := Lib.hid m4
      have HX4 := Lib.hid x4
      have HGx4 := Lib.hid (HGx3.out.mx m4 hgx)
      have HGk4 := Lib.hid (HGk3.out.mx m4 hgx)
      have HT4 : Hid (p4.top = .slice (some ⟨gi, 0, none⟩) 1 ic) := m4.idle.2.2.2.2.2.1
      have c18' := z4.ex.rt.parB.cell 18 (v := p4.top) rfl
      rw [HT4.out] at c18'
      clear z4 o4 m4 x4 HX3 HXb3 HGx3 HGk3 hrow hcu HK2 HXb1 HX1 HM1
      go_wp2_with fail
      refine wp_region_held_drew (S := fun W => W.heap[xb]? = some (.cells (itC 1 11 ⟨#[97]⟩ 17 (.slice va 1 vc)) 40 (0, 0)) ∧ W.cell? ⟨pb, 18, none⟩ = some (.slice (some ⟨gi, 0, none⟩) 1 ic)) (by kernel_rfl) ⟨HX4.out.row, c18'⟩ (fun hHeld => ?_)
      simp only [List.size_toArray, List.length_cons, List.length_nil]
      refine takeH (i := 0) (d := 36) (v := .pointer (some ⟨pb, 0, none⟩)) rfl rfl (by kernel_rfl) (by kernel_rfl) (by kernel_rfl) (fun _ _ _ h => h) (Or.inl ⟨by kernel_rfl, by intro w hSw; (try dsimp only at hSw); obtain ⟨s1, s2⟩ := hSw; go_simp⟩) (by assumption) ?_
      refine takeH (i := 1) (d := 37) (v := .pointer (some ⟨pb, 0, none⟩)) rfl rfl (by kernel_rfl) (by kernel_rfl) (by kernel_rfl) (fun _ _ _ h => h) (Or.inl ⟨by kernel_rfl, by intro w hSw; (try dsimp only at hSw); obtain ⟨s1, s2⟩ := hSw; go_simp⟩) (by assumption) ?_
      refine takeH (i := 2) (d := 38) (v := .pointer (some ⟨pb, 14, none⟩)) rfl rfl (by kernel_rfl) (by kernel_rfl) (by kernel_rfl) (fun _ _ _ h => h) (Or.inl ⟨by kernel_rfl, by intro w hSw; (try dsimp only at hSw); obtain ⟨s1, s2⟩ := hSw; go_simp⟩) (by assumption) ?_
      refine takeH (i := 3) (d := 39) (v := .pointer (some ⟨pb, 18, none⟩)) rfl rfl (by kernel_rfl) (by kernel_rfl) (by kernel_rfl) (fun _ _ _ h => h) (Or.inl ⟨by kernel_rfl, by intro w hSw; (try dsimp only at hSw); obtain ⟨s1, s2⟩ := hSw; go_simp⟩) (by assumption) ?_
      simp only [Act.put, List.setIfInBounds_toArray, List.set_cons_succ, List.set_cons_zero]
      refine takeH (i := 4) (d := 40) (v := .slice (some ⟨gi, 0, none⟩) 1 ic) rfl rfl (by kernel_rfl) (by kernel_rfl) (by kernel_rfl) (fun _ _ _ h => h) (Or.inl ⟨by kernel_rfl, by intro w hSw; (try dsimp only at hSw); obtain ⟨s1, s2⟩ := hSw; go_simp⟩) (by assumption) ?_
      refine takeH (i := 5) (d := 41) (v := .int .i64 0) rfl rfl (by kernel_rfl) (by kernel_rfl) (by kernel_rfl) (fun _ _ _ h => h) (Or.inl ⟨by kernel_rfl, by intro w hSw; (try dsimp only at hSw); obtain ⟨s1, s2⟩ := hSw; go_simp⟩) (by assumption) ?_
      simp only [Act.put, List.setIfInBounds_toArray, List.set_cons_succ, List.set_cons_zero]
      refine takeH (i := 6) (d := 42) (v := .agg (itC 1 11 ⟨#[97]⟩ 17 (.slice va 1 vc))) rfl rfl (by kernel_rfl) (by kernel_rfl) (by kernel_rfl) (fun _ _ _ h => h) (Or.inl ⟨by kernel_rfl, fun w hSw => loadI_exec (x := .tmp 6) rfl (by simp [Act.eval]) hSw.1 rfl⟩) (by assumption) ?_
      simp only [Act.put, List.setIfInBounds_toArray, List.set_cons_succ, List.set_cons_zero]
      refine takeH (i := 7) (d := 43) (v := .pointer (some ⟨gi, 0, none⟩)) rfl rfl (by kernel_rfl) (by kernel_rfl) (by kernel_rfl) (fun _ _ _ h => h) (Or.inl ⟨by kernel_rfl, by intro w hSw; (try dsimp only at hSw); obtain ⟨s1, s2⟩ := hSw; go_simp⟩) (by assumption) ?_
      simp only [Act.put, List.setIfInBounds_toArray, List.set_cons_succ, List.set_cons_zero]
      have HK5 : Hid (Keeps (fun k => k = gi) w4 (w4.drew.setCells gi 0 (itC 1 11 ⟨#[97]⟩ 17 (.slice va 1 vc)).toList)) := (Keeps.refl _ _).drew.trans (keeps_setCells gi _ 0 _) (fun _ _ e => e)
      refine wpAnyH_ready (rs := [8]) (by kernel_rfl) (by simp) ?_
      refine readySkip (i := 8) (w' := w4.drew.setCells gi 0 (itC 1 11 ⟨#[97]⟩ 17 (.slice va 1 vc)).toList) rfl rfl (by kernel_rfl) (storeI_exec (x := .tmp 43) (y := .tmp 42) rfl (by simp [Act.eval]) (by simp [Act.eval]) HGx4.out.row hcs rfl (itC_one _ _ _ _ _ _ _)) ⟨(HK5.out.block xb HX4.out.lt (fun e => hgx e.symm)).trans HX4.out.row, (World.cell?_setCells_out gi _ 0 _ ⟨pb, 18, none⟩ (fun e => absurd e (fun e => HGx4.out.ne e.symm))).trans c18'⟩ ?_ AllReadyH.nil
      refine wpAnyH_done (by kernel_rfl) ?_ _
      clear hHeld
      go_wp2_with fail
      go_end0
      exact ⟨rfl, keep_end HZ4.out HO4.out HM4.out HGx4.out HGk4.out HT4.out hcs HK5.out rfl HS3.out⟩
    case refine_2 =>
      refine AllReady.cons rfl (fun K hK => ?_) AllReady.nil
      refine step_bsI (kd := 1) (ps := 11) (s := ⟨#[]⟩) (a0 := 0) (va := none) (n := 0) (c := 0) (by kernel_rfl) (.tmp 28) (by rfl) (by rfl) ?_
      refine hK _ _ ?_
      clear hK K
      simp only [Act.put, List.setIfInBounds_toArray, List.set_cons_succ, List.set_cons_zero]
      refine wpAny_ready (rs := [5]) (by kernel_rfl) (by simp) ?_
      refine AllReady.cons rfl (fun K hK => ?_) AllReady.nil
      refine step_load1 (by kernel_rfl) 25 (.tmp 26) (by rfl) (ad := ⟨pb, 18, none⟩) (v := .slice none 0 0) (by simp [Act.eval, Act.put]) (hl5' _) ?_
      refine hK _ _ ?_
      clear hK K
      simp only [Act.put, List.setIfInBounds_toArray, List.set_cons_succ, List.set_cons_zero]
      refine wpAny_ready (rs := [8]) (by kernel_rfl) (by simp) ?_
      refine AllReady.cons rfl (fun K hK => ?_) AllReady.nil
      refine step_appI (cap := 1) (by kernel_rfl) (.tmp 27) (.tmp 29) (by rfl) (by rfl) (by rfl) (by exact heap_alloc_new W1.drew _) (by rfl) (itC_one _ _ _ _ _ _ _) ?_
      intro gi ic cur w2 hg2 hge hrow hcs hcu
      refine hK _ _ ?_
      clear hK K
      simp only [Act.put, List.setIfInBounds_toArray, List.set_cons_succ, List.set_cons_zero]
      have HK2 := Lib.hid (HAp.out _ _ hg2)
      have HP2 : Hid (ParB w2 pb par) := HX1.out.rt.parB.keeps HK2.out id
      have c12 := HP2.out.cell 18 (v := par.top) rfl
      rw [HT.out] at c12
      have z12 := HP2.out.thawed 18
      have hl12 : (storeVar 25 ⟨pb, 18, none⟩ (.slice (some ⟨gi, 0, none⟩) 1 ic)).run Tryz.prog w2 = .ok () (w2.setCell ⟨pb, 18, none⟩ (.slice (some ⟨gi, 0, none⟩) 1 ic)) := run_stI c12 z12
      refine takeA (i := 9) (d := 31) (v := .pointer (some ⟨pb, 0, none⟩)) rfl rfl (by kernel_rfl) (by kernel_rfl) (by kernel_rfl) (fun _ _ _ h => h) (Or.inl ⟨by kernel_rfl, by intro w; go_simp⟩) ?_
      refine takeA (i := 10) (d := 32) (v := .pointer (some ⟨pb, 14, none⟩)) rfl rfl (by kernel_rfl) (by kernel_rfl) (by kernel_rfl) (fun _ _ _ h => h) (Or.inl ⟨by kernel_rfl, by intro w; go_simp⟩) ?_
      refine takeA (i := 11) (d := 33) (v := .pointer (some ⟨pb, 18, none⟩)) rfl rfl (by kernel_rfl) (by kernel_rfl) (by kernel_rfl) (fun _ _ _ h => h) (Or.inl ⟨by kernel_rfl, by intro w; go_simp⟩) ?_
      simp only [Act.put, List.setIfInBounds_toArray, List.set_cons_succ, List.set_cons_zero]
      refine wpAny_ready (rs := [12]) (by kernel_rfl) (by simp) ?_
      refine readySkipA (i := 12) (w' := w2.setCell ⟨pb, 18, none⟩ (.slice (some ⟨gi, 0, none⟩) 1 ic)) rfl rfl (by kernel_rfl) (store1_exec (x := .tmp 33) (y := .tmp 30) rfl (by simp [Act.eval]) (by simp [Act.eval]) hl12) ?_ AllReady.nil
      refine wpAny_done (by kernel_rfl) ?_ _
      clear c12 z12 hl12 HP2 hg2
      have HX3 : Hid (Ex (w2.setCell ⟨pb, 18, none⟩ (.slice (some ⟨gi, 0, none⟩) 1 ic)) pb base b o cap g lc zsC tsC 4 { par with top := .slice (some ⟨gi, 0, none⟩) 1 ic } ws []) := (HX1.out.me HK2.out).put18 _
      have hgi : W1.heap.size ≤ gi := Nat.le_trans (by simp) hge
      have HXb3 : Hid (Xb (w2.setCell ⟨pb, 18, none⟩ (.slice (some ⟨gi, 0, none⟩) 1 ic)) pb base { par with top := .slice (some ⟨gi, 0, none⟩) 1 ic } xb (itC 1 11 ⟨#[]⟩ 0 (.slice none 0 0))) := ⟨(Below.heap_setCell _ _ _ _ HXb1.out.ne).trans ((HK2.out.block xb HXb1.out.lt id).trans HXb1.out.row), HXb1.out.lo, HXb1.out.ne, HXb1.out.words, HXb1.out.items⟩
      have HGx3 : Hid (Xb (w2.setCell ⟨pb, 18, none⟩ (.slice (some ⟨gi, 0, none⟩) 1 ic)) pb base { par with top := .slice (some ⟨gi, 0, none⟩) 1 ic } gi cur) := ⟨(Below.heap_setCell _ _ _ _ (by show gi ≠ pb; omega)).trans hrow, Nat.le_trans HXb1.out.lo (by omega), by omega, fun e => by have := HX1.out.rt.own.lt _ e; omega, fun e => by have := HX1.out.nd.lt _ e; omega⟩
      have HGk3 : Hid (Kd (w2.setCell ⟨pb, 18, none⟩ (.slice (some ⟨gi, 0, none⟩) 1 ic)) pb { par with top := .slice (some ⟨gi, 0, none⟩) 1 ic } gi 1 11) := ⟨HGx3.out.cell 0 ((hcu 0 (by omega)).trans rfl), HGx3.out.cell 1 ((hcu 1 (by omega)).trans rfl), HGx3.out.ne, HGx3.out.words, HGx3.out.items, HGx3.out.lt⟩
      have HS3 : Hid (Keeps (fun k => k = pb ∨ base ≤ k) w (w2.setCell ⟨pb, 18, none⟩ (.slice (some ⟨gi, 0, none⟩) 1 ic))) := (HM1.out.keeps.trans (HK2.out.mono (fun _ _ e => e.elim)) (fun _ _ e => e)).trans ((Keeps.setCell _ _ _ _).mono (fun _ _ => .inl)) (fun _ _ e => e)
      have hgx : gi ≠ xb := by omega
      go_wp2_with fail
      refine (constant_C HX3.out HO.out HXb3.out (by decide) (by decide)).mono ?_
      rintro e w4 ⟨rfl, p4, ns4, va, vc, z4, o4, m4, x4⟩
      have HZ4 := Lib.hid z4
      have HO4 : Hid (p4.open_ = 1) := o4
      have HM4 := Lib.hid m4
      have HX4 := Lib.hid x4
      have HGx4 := Lib.hid (HGx3.out.mx m4 hgx)
      have HGk4 := Lib.hid (HGk3.out.mx m4 hgx)
      have HT4 : Hid (p4.top = .slice (some ⟨gi, 0, none⟩) 1 ic) := m4.idle.2.2.2.2.2.1
      have c18' := z4.ex.rt.parB.cell 18 (v := p4.top) rfl
      rw [HT4.out] at c18'
      clear z4 o4 m4 x4 HX3 HXb3 HGx3 HGk3 hrow hcu HK2 HXb1 HX1 HM1
      go_wp2_with fail
      refine wp_region_held_drew (S := fun W => W.heap[xb]? = some (.cells (itC 1 11 ⟨#[97]⟩ 17 (.slice va 1 vc)) 40 (0, 0)) ∧ W.cell? ⟨pb, 18, none⟩ = some (.slice (some ⟨gi, 0, none⟩) 1 ic)) (by kernel_rfl) ⟨HX4.out.row, c18'⟩ (fun hHeld => ?_)
      simp only [List.size_toArray, List.length_cons, List.length_nil]
      refine takeH (i := 0) (d := 36) (v := .pointer (some ⟨pb, 0, none⟩)) rfl rfl (by kernel_rfl) (by kernel_rfl) (by kernel_rfl) (fun _ _ _ h => h) (Or.inl ⟨by kernel_rfl, by intro w hSw; (try dsimp only at hSw); obtain ⟨s1, s2⟩ := hSw; go_simp⟩) (by assumption) ?_
      refine takeH (i := 1) (d := 37) (v := .pointer (some ⟨pb, 0, none⟩)) rfl rfl (by kernel_rfl) (by kernel_rfl) (by kernel_rfl) (fun _ _ _ h => h) (Or.inl ⟨by kernel_rfl, by intro w hSw; (try dsimp only at hSw); obtain ⟨s1, s2⟩ := hSw; go_simp⟩) (by assumption) ?_
      refine takeH (i := 2) (d := 38) (v := .pointer (some ⟨pb, 14, none⟩)) rfl rfl (by kernel_rfl) (by kernel_rfl) (by kernel_rfl) (fun _ _ _ h => h) (Or.inl ⟨by kernel_rfl, by intro w hSw; (try dsimp only at hSw); obtain ⟨s1, s2⟩ := hSw; go_simp⟩) (by assumption) ?_
      refine takeH (i := 3) (d := 39) (v := .pointer (some ⟨pb, 18, none⟩)) rfl rfl (by kernel_rfl) (by kernel_rfl) (by kernel_rfl) (fun _ _ _ h => h) (Or.inl ⟨by kernel_rfl, by intro w hSw; (try dsimp only at hSw); obtain ⟨s1, s2⟩ := hSw; go_simp⟩) (by assumption) ?_
      simp only [Act.put, List.setIfInBounds_toArray, List.set_cons_succ, List.set_cons_zero]
      refine takeH (i := 4) (d := 40) (v := .slice (some ⟨gi, 0, none⟩) 1 ic) rfl rfl (by kernel_rfl) (by kernel_rfl) (by kernel_rfl) (fun _ _ _ h => h) (Or.inl ⟨by kernel_rfl, by intro w hSw; (try dsimp only at hSw); obtain ⟨s1, s2⟩ := hSw; go_simp⟩) (by assumption) ?_
      refine takeH (i := 5) (d := 41) (v := .int .i64 0) rfl rfl (by kernel_rfl) (by kernel_rfl) (by kernel_rfl) (fun _ _ _ h => h) (Or.inl ⟨by kernel_rfl, by intro w hSw; (try dsimp only at hSw); obtain ⟨s1, s2⟩ := hSw; go_simp⟩) (by assumption) ?_
      simp only [Act.put, List.setIfInBounds_toArray, List.set_cons_succ, List.set_cons_zero]
      refine takeH (i := 6) (d := 42) (v := .agg (itC 1 11 ⟨#[97]⟩ 17 (.slice va 1 vc))) rfl rfl (by kernel_rfl) (by kernel_rfl) (by kernel_rfl) (fun _ _ _ h => h) (Or.inl ⟨by kernel_rfl, fun w hSw => loadI_exec (x := .tmp 6) rfl (by simp [Act.eval]) hSw.1 rfl⟩) (by assumption) ?_
      simp only [Act.put, List.setIfInBounds_toArray, List.set_cons_succ, List.set_cons_zero]
      refine takeH (i := 7) (d := 43) (v := .pointer (some ⟨gi, 0, none⟩)) rfl rfl (by kernel_rfl) (by kernel_rfl) (by kernel_rfl) (fun _ _ _ h => h) (Or.inl ⟨by kernel_rfl, by intro w hSw; (try dsimp only at hSw); obtain ⟨s1, s2⟩ := hSw; go_simp⟩) (by assumption) ?_
      simp only [Act.put, List.setIfInBounds_toArray, List.set_cons_succ, List.set_cons_zero]
      have HK5 : Hid (Keeps (fun k => k = gi) w4 (w4.drew.setCells gi 0 (itC 1 11 ⟨#[97]⟩ 17 (.slice va 1 vc)).toList)) := (Keeps.refl _ _).drew.trans (keeps_setCells gi _ 0 _) (fun _ _ e => e)
      refine wpAnyH_ready (rs := [8]) (by kernel_rfl) (by simp) ?_
      refine readySkip (i := 8) (w' := w4.drew.setCells gi 0 (itC 1 11 ⟨#[97]⟩ 17 (.slice va 1 vc)).toList) rfl rfl (by kernel_rfl) (storeI_exec (x := .tmp 43) (y := .tmp 42) rfl (by simp [Act.eval]) (by simp [Act.eval]) HGx4.out.row hcs rfl (itC_one _ _ _ _ _ _ _)) ⟨(HK5.out.block xb HX4.out.lt (fun e => hgx e.symm)).trans HX4.out.row, (World.cell?_setCells_out gi _ 0 _ ⟨pb, 18, none⟩ (fun e => absurd e (fun e => HGx4.out.ne e.symm))).trans c18'⟩ ?_ AllReadyH.nil
      refine wpAnyH_done (by kernel_rfl) ?_ _
      clear hHeld
      go_wp2_with fail
      go_end0
      exact ⟨rfl, keep_end HZ4.out HO4.out HM4.out HGx4.out HGk4.out HT4.out hcs HK5.out rfl HS3.out⟩
end Go.Proofs.YtmkibolkcjallaaGreatDoor
/- inner, inGroup, inPolicy, block, policy, where one const is ahead. Own work. -/
namespace Go.Proofs.YtmkibolkcjallaaGreatDoor
open Go.RowKit Go.Shelf Sc
def kidsM : Value → Nat
  | .slice _ 0 _ => 1
  | _ => 0
theorem Me.kp {pb base : Nat} {w w' : World} {p p' : Par} (h : Me pb base w p w' p') : Keeps (fun k => k = pb ∨ base ≤ k) w w' := h.keeps
theorem Keeps.tr {S : Nat → Prop} {a b c : World} (h : Keeps S a b) (k : Keeps S b c) : Keeps S a c := h.trans k (fun _ _ e => e)
set_option maxRecDepth 100000 in
set_option maxHeartbeats 4000000 in
theorem inner_C {w : World} {pb base b o cap g lc : Nat} {par : Par} {ws : List ByteArray} {fn : Fn} {cs ds : Array Value} (h : Ex w pb base b o cap g lc zsC tsC 3 par ws []) (ho : par.open_ = 1) (ht : par.top = .slice none 0 0) (hl : ws.length ≤ 900) :
    Calls Tryz.prog 48 #[.pointer (some ⟨pb, 0, none⟩), .func fn cs ds] w fun e w' => e = .returned (.bool true) ∧ ∃ par' ns' gi ic, Kp w' pb base b o cap g lc 12 par' ns' gi ic ∧ par'.open_ = 1 ∧ Idl par par' ∧ Keeps (fun k => k = pb ∨ base ≤ k) w w' := by
  have HX := Lib.hid h
  have HO : Hid (par.open_ = 1) := ho
  have HT : Hid (par.top = .slice none 0 0) := ht
  have HPb : Hid (w.heap.size ≠ pb ∧ par.words.ownBlock ≠ some w.heap.size ∧ par.items.ownBlock ≠ some w.heap.size) := ⟨fun e => by have := h.rt.parB.lt; omega, fun e => by have := h.rt.own.lt _ e; omega, fun e => by have := h.nd.lt _ e; omega⟩
  have hmf : ∀ (fn : Fn) (first cap : Array Value) (w : World), (Instr.makeFunc fn first cap).run Tryz.prog w = .ok (.func fn first cap) w := fun _ _ _ _ => rfl
  clear h ho ht
  go_enter Tryz.func48, Tryz.ntmps48
  go_wp2_with fail
  obtain ⟨W1, hW1⟩ : ∃ W1, (w.alloc (Obj.cells #[Value.pointer (some ⟨pb, 0, none⟩)] 57)).alloc (Obj.cells #[Value.func fn cs ds] 1) = W1 := ⟨_, rfl⟩
  have HX1 : Hid (Ex W1 pb base b o cap g lc zsC tsC 3 par ws []) := hW1 ▸ (HX.out.alloc _).alloc _
  have HM1 : Hid (Me pb base w par W1 par) := hW1 ▸ ((Me.refl _ _ _ _).alloc _).alloc _
  have HB1 : Hid (W1.heap[w.heap.size]? = some (.cells #[Value.pointer (some ⟨pb, 0, none⟩)] 57 (0, 0))) := hW1 ▸ alloc2_0 w _ _
  rw [hW1]
  clear hW1
  refine (takes_yesE ⟨#[99, 111, 110, 115, 116]⟩ HX1.out (by decide) (by decide) (by decide) (by kernel_rfl) (by rw [HO.out]; decide) (by rw [HO.out]; decide) (by omega)).mono ?_
  rintro e w2 ⟨rfl, v2, u2, x2, m2⟩
  have HX2 := Lib.hid x2
  have HM2 := Lib.hid (HM1.out.trans m2)
  have c3 := m2.cell (box_cell HB1.out) HPb.out.1 HPb.out.2.1 HPb.out.2.2
  clear x2 m2 HX1 HB1 HM1
  go_wp2_with fail
  refine (keep_C HX2.out (by simp [Par.past, openN, HO.out, tsC]) (by rfl) HT.out).mono ?_
  rintro e w3 ⟨rfl, p3, ns3, gi, ic, k3, o3, i3, s3⟩
  have HK3 := Lib.hid k3
  have HO3 : Hid (p3.open_ = 1) := o3
  have HI3 : Hid (Idl par p3) := HM2.out.idle.idl.trans i3
  have HS3 : Hid (Keeps (fun k => k = pb ∨ base ≤ k) w w3) := HM2.out.keeps.tr s3
  clear k3 o3 i3 s3 c3
  go_wp2_with fail
  go_ret
  exact ⟨rfl, p3, ns3, gi, ic, HK3.out, HO3.out, HI3.out, HS3.out⟩
set_option maxRecDepth 100000 in
set_option maxHeartbeats 4000000 in
theorem inGroup_C {w : World} {pb base b o cap g lc : Nat} {par : Par} {ws : List ByteArray} (h : Ex w pb base b o cap g lc zsC tsC 3 par ws []) (ho : par.open_ = 1) (ht : par.top = .slice none 0 0) (hl : ws.length ≤ 900) :
    Calls Tryz.prog 32 #[.pointer (some ⟨pb, 0, none⟩)] w fun e w' => e = .returned (.tuple #[]) ∧ ∃ par' ns' gi ic, Kp w' pb base b o cap g lc 12 par' ns' gi ic ∧ par'.open_ = 1 ∧ Idl par par' ∧ Keeps (fun k => k = pb ∨ base ≤ k) w w' := by
  have HC : Hid (∀ fn cs ds, Calls Tryz.prog 48 #[.pointer (some ⟨pb, 0, none⟩), .func fn cs ds] w fun e w' => e = .returned (.bool true) ∧ ∃ par' ns' gi ic, Kp w' pb base b o cap g lc 12 par' ns' gi ic ∧ par'.open_ = 1 ∧ Idl par par' ∧ Keeps (fun k => k = pb ∨ base ≤ k) w w') := fun fn cs ds => inner_C h ho ht hl
  have hmf : ∀ (fn : Fn) (first cap : Array Value) (w : World), (Instr.makeFunc fn first cap).run Tryz.prog w = .ok (.func fn first cap) w := fun _ _ _ _ => rfl
  clear h ho ht
  go_enter Tryz.func32, Tryz.ntmps32
  go_wp2_with fail
  refine (HC.out _ _ _).mono ?_
  rintro e w1 ⟨rfl, p1, ns1, gi, ic, k1⟩
  have HK := Lib.hid k1
  clear k1 HC
  go_wp2_with fail
  go_end0
  exact ⟨rfl, p1, ns1, gi, ic, HK.out⟩
set_option maxRecDepth 100000 in
set_option maxHeartbeats 4000000 in
theorem inPolicy_C {w : World} {pb base b o cap g lc : Nat} {par : Par} {ws : List ByteArray} (h : Ex w pb base b o cap g lc zsC tsC 3 par ws []) (ho : par.open_ = 1) (ht : par.top = .slice none 0 0) (hl : ws.length ≤ 800) :
    Calls Tryz.prog 18 #[.pointer (some ⟨pb, 0, none⟩)] w fun e w' => e = .returned (.tuple #[]) ∧ ∃ par' ns' gi ic, Kp w' pb base b o cap g lc 12 par' ns' gi ic ∧ par'.open_ = 1 ∧ Idl par par' ∧ Keeps (fun k => k = pb ∨ base ≤ k) w w' := by
  have HX := Lib.hid h
  have HO : Hid (par.open_ = 1) := ho
  have HT : Hid (par.top = .slice none 0 0) := ht
  clear h ho ht
  go_enter Tryz.func18, Tryz.ntmps18
  go_wp2_with fail
  refine (takes_noE ⟨#[103, 114, 111, 117, 112]⟩ HX.out (by decide) (by decide) (by decide) (by decide) (by omega)).mono ?_
  rintro e w1 ⟨rfl, v1, x1, m1⟩
  have HX1 := Lib.hid x1
  have HM1 := Lib.hid m1
  clear x1 m1
  go_wp2_with fail
  refine (inGroup_C HX1.out HO.out HT.out (by simp; omega)).mono ?_
  rintro e w2 ⟨rfl, p2, ns2, gi, ic, k2, o2, i2, s2⟩
  have HK : Hid (Kp w2 pb base b o cap g lc 12 p2 ns2 gi ic ∧ p2.open_ = 1 ∧ Idl par p2 ∧ Keeps (fun k => k = pb ∨ base ≤ k) w w2) := ⟨k2, o2, HM1.out.idle.idl.trans i2, HM1.out.keeps.tr s2⟩
  clear k2 o2 i2 s2
  go_wp2_with fail
  go_end0
  exact ⟨rfl, p2, ns2, gi, ic, HK.out⟩
set_option maxRecDepth 100000 in
set_option maxHeartbeats 4000000 in
theorem block_C {w : World} {pb base b o cap g lc : Nat} {par : Par} (h : Ex w pb base b o cap g lc zsC tsC 2 par [] []) (ho : par.open_ = 0) (ht : par.top = .slice none 0 0) :
    Calls Tryz.prog 17 #[.pointer (some ⟨pb, 0, none⟩), .func (.func 18) #[.pointer (some ⟨pb, 0, none⟩)] #[]] w fun e w' => ∃ va vc, e = .returned (.slice va 1 vc) ∧ ∃ par' ns' gi ic, Kp w' pb base b o cap g lc 13 par' ns' gi ic ∧ Idl par par' ∧ Keeps (fun k => k = pb ∨ base ≤ k) w w' := by
  have HN := Lib.hid (needs_yesE ⟨#[123]⟩ h (by decide) (by decide) (by decide) (by kernel_rfl) (by rw [ho]; decide) (by rw [ho]; decide) (by decide))
  have HO : Hid (par.open_ = 0) := ho
  have HT : Hid (par.top = .slice none 0 0) := ht
  have he' : ∀ (args : Array Value) (w : World), (callFunc 18 args).run Tryz.prog w = .ok (.enter 18 args) w := enters_of Tryz.func18 (by kernel_rfl) rfl
  clear h ho ht
  go_enter Tryz.func17, Tryz.ntmps17
  go_wp2_with fail
  refine HN.out.mono ?_
  rintro e w1 ⟨rfl, v1, u1, h1, hm1⟩
  have H1 := Lib.hid h1
  have HM1 := Lib.hid hm1
  clear h1 hm1 HN
  go_wp2_with fail
  go_loopw [5] (fun kids wr => (kids = .slice none 0 0 ∧ wr = w1) ∨ ((∃ va vc, kids = .slice va 1 vc) ∧ Hid (∃ p ns gi ic, Kp wr pb base b o cap g lc 12 p ns gi ic ∧ p.open_ = 1 ∧ Idl par p ∧ Keeps (fun k => k = pb ∨ base ≤ k) w wr))) (fun kids _ => kidsM kids)
  case atStart => exact .inl ⟨rfl, rfl⟩
  case round =>
    rcases hrel with ⟨rfl, rfl⟩ | ⟨⟨va, vc, rfl⟩, HE⟩
    · go_wp2_with fail
      refine (takes_noE ⟨#[125]⟩ H1.out (by decide) (by decide) (by decide) (by decide) (by decide)).mono ?_
      rintro e w2 ⟨rfl, u2, h2, hm2⟩
      have H2 := Lib.hid h2
      have HM2 := Lib.hid hm2
      have d18 := h2.rt.parB.cell 18 (v := .slice none 0 0) (by show some (Par.top _) = _; simp only [Par.past]; rw [HT.out])
      have HC3 : Hid (∀ z : Int, (w2.alloc (Obj.cells #[Value.int IntKind.i64 z] 3)).cell? ⟨w2.heap.size, 0, none⟩ = some (.int .i64 z)) := fun z => box_cell (heap_alloc_new w2 _)
      clear h2 hm2
      go_wp2_with (first | (refine wpList_appK1 (y := 0) (g := w2.heap.size) (cap := 1) (by rfl) (.tmp 15) (.tmp 22) (by rfl) (by rfl) (by rfl) (by exact HC3.out 0) ?_; intro va vc w4 hg4; have HG4 := Lib.hid hg4; clear hg4))
      have H4 : Hid (Ex w4 pb base b o cap g lc zsC tsC 3 { par.past tsC[2] v1 u1 with words := u2 } ([] ++ [⟨#[125]⟩]) []) := (H2.out.alloc _).me ((Keeps.of_grown HG4.out).mono (fun _ _ e => by cases e))
      have HM4 : Hid (Me pb base w par w4 { par.past tsC[2] v1 u1 with words := u2 }) := ((HM1.out.trans HM2.out).alloc _).grown HG4.out
      refine (inPolicy_C H4.out (by simp [Par.past, openN, HO.out, tsC]) HT.out (by decide)).mono ?_
      rintro e w5 ⟨rfl, p5, ns5, gi, ic, k5, o5, i5, s5⟩
      have HK : Hid (∃ p ns gi ic, Kp w5 pb base b o cap g lc 12 p ns gi ic ∧ p.open_ = 1 ∧ Idl par p ∧ Keeps (fun k => k = pb ∨ base ≤ k) w w5) := ⟨p5, ns5, gi, ic, k5, o5, HM4.out.idle.idl.trans i5, HM4.out.keeps.tr s5⟩
      clear k5 o5 i5 s5
      go_wp2_with fail
      go_roundw
      case rel => exact .inr ⟨⟨va, vc, rfl⟩, HK⟩
      case measure => exact (show (0 : Nat) < 1 by decide)
    · obtain ⟨p5, ns5, gi, ic, k5, o5, i5, s5⟩ := HE.out
      have HK5 := Lib.hid k5
      have HO5 : Hid (p5.open_ = 1) := o5
      have HI5 := Lib.hid i5
      have HS5 : Hid (Keeps (fun k => k = pb ∨ base ≤ k) w wr) := s5
      clear HE k5 o5 i5 s5
      go_wp2_with fail
      refine (takes_yesE ⟨#[125]⟩ HK5.out.z.ex (by decide) (by decide) (by decide) (by kernel_rfl) (by rw [HO5.out]; decide) (by rw [HO5.out]; decide) (by decide)).mono ?_
      rintro e w6 ⟨rfl, v6, u6, x6, m6⟩
      have HK6 := Lib.hid (HK5.out.me x6 m6)
      have HI6 : Hid (Idl par (p5.past tsC[12] v6 u6)) := HI5.out.trans m6.idle.idl
      have HS6 : Hid (Keeps (fun k => k = pb ∨ base ≤ k) w w6) := HS5.out.tr m6.keeps
      clear x6 m6
      go_wp2_with fail
      go_ret
      exact ⟨va, vc, rfl, _, ns5, gi, ic, HK6.out, HI6.out, HS6.out⟩
/-- behind the policy -/
structure Trd (w : World) (pb base : Nat) (p : Par) (ns : List Nd) (gi ic : Nat) : Prop where
  parB : ParB w pb p
  nd : OwnN w base p.items ns
  kids : ∃ kb kc, ns = [nC0, nC1, nC2, nC3 kb, nC4 kc] ∧ Kd w pb p kb 1 2 ∧ Kd w pb p kc 0 3
  top : p.top = .slice (some ⟨gi, 0, none⟩) 1 ic
  item : Kd w pb p gi 1 11
set_option maxRecDepth 100000 in
set_option maxHeartbeats 4000000 in
theorem policy_C {w : World} {pb base b o cap g lc : Nat} {par : Par} (h : Ex w pb base b o cap g lc zsC tsC 0 par [] []) (ho : par.open_ = 0) (hw : par.whole = true) (h0 : par.index = .slice none 0 0) (ht : par.top = .slice none 0 0) (h3 : par.nodes = .slice none 0 0) :
    Calls Tryz.prog 11 #[.pointer (some ⟨pb, 0, none⟩)] w fun e w' => e = .returned (.tuple #[]) ∧ ∃ par' ns' gi ic va vc, Trd w' pb base par' ns' gi ic ∧ par'.pos = 0 ∧ par'.word = ⟨#[115]⟩ ∧ par'.wat = 7 ∧ par'.index = .slice none 0 0 ∧ par'.nodes = .slice va 1 vc ∧ Keeps (fun k => k = pb ∨ base ≤ k) w w' := by
  have HN := Lib.hid (needs_yesE ⟨#[115, 121, 115, 116, 101, 109]⟩ h (by decide) (by decide) (by decide) (by kernel_rfl) (by omega) (by rw [ho]; decide) (by simp))
  have HOp : Hid (par.open_ = 0) := ho
  have HWh : Hid (par.whole = true) := hw
  have HTp : Hid (par.top = .slice none 0 0) := ht
  have hmf : ∀ (fn : Fn) (first cap : Array Value) (w : World), (Instr.makeFunc fn first cap).run Tryz.prog w = .ok (.func fn first cap) w := fun _ _ _ _ => rfl
  clear h ho hw ht
  go_enter Tryz.func11, Tryz.ntmps11
  go_wp2_with fail
  refine HN.out.mono ?_
  rintro e w1 ⟨rfl, v1, u1, h1, hm1⟩
  have H1 := Lib.hid h1
  have HM1 := Lib.hid hm1.keeps
  have d7 := h1.rt.parB.cell 7 (v := .int .i64 0) rfl
  have d14 := h1.rt.parB.cell 14 (v := .int .i64 par.pos) rfl
  have z14 := h1.rt.parB.thawed 14
  clear h1 hm1 HN
  go_wp2_with fail
  have H2 : Hid (Ex (w1.setCell ⟨pb, 14, none⟩ (.int .i64 0)) pb base b o cap g lc zsC tsC 1 { (par.past tsC[0] v1 u1) with pos := 0 } [] []) := H1.out.putI rfl rfl rfl rfl rfl
  have HM2 : Hid (Keeps (fun k => k = pb ∨ base ≤ k) w (w1.setCell ⟨pb, 14, none⟩ (.int .i64 0))) := HM1.out.tr ((Keeps.setCell _ _ _ _).mono (fun _ _ => .inl))
  refine (word_yesE H2.out (by decide) rfl (by simp [Par.past, openN, HOp.out, tsC])).mono ?_
  rintro e w3 ⟨rfl, v3, u3, h3', hm3⟩
  have H3 := Lib.hid h3'
  have HM3 : Hid (Keeps (fun k => k = pb ∨ base ≤ k) w w3) := HM2.out.tr hm3.keeps
  have d15 := h3'.rt.parB.cell 15 (v := .string par.word) rfl
  have d16 := h3'.rt.parB.cell 16 (v := .int .i64 par.wat) rfl
  have d17 := h3'.rt.parB.cell 17 (v := par.index) rfl
  rw [h0] at d17
  have z15 := h3'.rt.parB.thawed 15
  have z16 := h3'.rt.parB.thawed 16
  have z17 := h3'.rt.parB.thawed 17
  clear h3' hm3 H1 H2 HM1 HM2 d7 d14 z14
  unfold refV
  rw [show mkS tsC[1].s = (⟨#[115]⟩ : ByteArray) by kernel_rfl, show ((tsC[1].at_ : Nat) : Int) = 7 by kernel_rfl]
  go_wp2_with fail
  have H4 : Hid (Ex (((w3.setCell ⟨pb, 15, none⟩ (.string ⟨#[115]⟩)).setCell ⟨pb, 16, none⟩ (.int .i64 7)).setCell ⟨pb, 17, none⟩ (.slice none 0 0)) pb base b o cap g lc zsC tsC 2 { (Par.past { (par.past tsC[0] v1 u1) with pos := 0 } tsC[1] v3 u3) with word := ⟨#[115]⟩, wat := 7, index := .slice none 0 0 } [] []) :=
    (((H3.out.putI (par' := { (Par.past { (par.past tsC[0] v1 u1) with pos := 0 } tsC[1] v3 u3) with word := ⟨#[115]⟩ }) rfl rfl rfl rfl rfl).putI (par' := { (Par.past { (par.past tsC[0] v1 u1) with pos := 0 } tsC[1] v3 u3) with word := ⟨#[115]⟩, wat := 7 }) rfl rfl rfl rfl rfl).putI rfl rfl rfl rfl rfl)
  have HM4 : Hid (Keeps (fun k => k = pb ∨ base ≤ k) w (((w3.setCell ⟨pb, 15, none⟩ (.string ⟨#[115]⟩)).setCell ⟨pb, 16, none⟩ (.int .i64 7)).setCell ⟨pb, 17, none⟩ (.slice none 0 0))) := ((HM3.out.tr ((Keeps.setCell _ _ _ _).mono (fun _ _ => .inl))).tr ((Keeps.setCell _ _ _ _).mono (fun _ _ => .inl))).tr ((Keeps.setCell _ _ _ _).mono (fun _ _ => .inl))
  obtain ⟨W4, hW4⟩ : ∃ W4, (((w3.setCell ⟨pb, 15, none⟩ (.string ⟨#[115]⟩)).setCell ⟨pb, 16, none⟩ (.int .i64 7)).setCell ⟨pb, 17, none⟩ (.slice none 0 0)) = W4 := ⟨_, rfl⟩
  obtain ⟨p4, hp4⟩ : ∃ p4, ({ (Par.past { (par.past tsC[0] v1 u1) with pos := 0 } tsC[1] v3 u3) with word := ⟨#[115]⟩, wat := 7, index := .slice none 0 0 } : Par) = p4 := ⟨_, rfl⟩
  have HP4 : Hid (p4.open_ = 0 ∧ p4.whole = true ∧ p4.top = .slice none 0 0 ∧ p4.pos = 0 ∧ p4.word = ⟨#[115]⟩ ∧ p4.wat = 7 ∧ p4.index = .slice none 0 0 ∧ p4.nodes = .slice none 0 0) := by
    rw [← hp4]
    exact ⟨by simp [Par.past, openN, HOp.out, tsC], HWh.out, HTp.out, rfl, rfl, rfl, rfl, h3⟩
  rw [hW4] at H4 HM4 ⊢
  rw [hp4] at H4
  clear hW4 hp4 H3 HM3 d15 d16 d17 z15 z16 z17
  refine (block_C H4.out HP4.out.1 HP4.out.2.2.1).mono ?_
  rintro e w5 ⟨va, vc, rfl, p5, ns5, gi, ic, k5, i5, s5⟩
  have HK5 := Lib.hid k5
  have HI5 := Lib.hid i5
  have HS5 : Hid (Keeps (fun k => k = pb ∨ base ≤ k) w w5) := HM4.out.tr s5
  have d20 := k5.z.ex.rt.parB.cell 20 (v := p5.nodes) rfl
  rw [i5.2.2.2.2.2, HP4.out.2.2.2.2.2.2.2] at d20
  have z20 := k5.z.ex.rt.parB.thawed 20
  clear k5 i5 s5 H4 HM4
  go_wp2_with fail
  obtain ⟨la, lc', hla⟩ := HK5.out.z.ex.rt.done rfl
  have HX6 : Hid (Ex (w5.setCell ⟨pb, 20, none⟩ (.slice va 1 vc)) pb base b o cap g lc zsC tsC 13 { p5 with nodes := .slice va 1 vc } [] ns5) := HK5.out.z.ex.putI rfl rfl rfl rfl rfl
  have HK6 : Hid (Keeps (fun k => k = pb) w5 (w5.setCell ⟨pb, 20, none⟩ (.slice va 1 vc))) := Keeps.setCell _ _ _ _
  have HT6 : Hid (Trd (w5.setCell ⟨pb, 20, none⟩ (.slice va 1 vc)) pb base { p5 with nodes := .slice va 1 vc } ns5 gi ic) := by
    refine ⟨HX6.out.rt.parB, HX6.out.nd, ?_, HK5.out.top, ?_⟩
    · obtain ⟨kb, kc, e, h1, h2⟩ := HK5.out.z.kids
      exact ⟨kb, kc, e, (h1.keeps HK6.out h1.pb_).par rfl rfl, (h2.keeps HK6.out h2.pb_).par rfl rfl⟩
    · exact (HK5.out.item.keeps HK6.out HK5.out.item.pb_).par rfl rfl
  refine (ends_ok HX6.out.rt.parB hla (by show p5.whole = true; rw [HI5.out.1]; exact HP4.out.2.1)).mono ?_
  rintro e w7 ⟨rfl, rfl⟩
  go_wp2_with fail
  go_end0
  exact ⟨rfl, _, ns5, gi, ic, va, vc, HT6.out, HI5.out.2.1.trans HP4.out.2.2.2.1, HI5.out.2.2.1.trans HP4.out.2.2.2.2.1, HI5.out.2.2.2.1.trans HP4.out.2.2.2.2.2.1, HI5.out.2.2.2.2.1.trans HP4.out.2.2.2.2.2.2.1, rfl, HS5.out.tr (HK6.out.mono (fun _ _ => .inl))⟩
end Go.Proofs.YtmkibolkcjallaaGreatDoor
