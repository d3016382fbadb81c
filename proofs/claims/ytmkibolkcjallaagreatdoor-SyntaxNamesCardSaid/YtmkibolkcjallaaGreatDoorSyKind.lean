/- Syntax: takesKind. -/
import Derived.Test.YtmkibolkcjallaaGreatDoorSyStop
namespace Go.Proofs.YtmkibolkcjallaaGreatDoor
open Go.RowKit
set_option maxRecDepth 100000 in
set_option maxHeartbeats 2000000 in
/-- nothing is ahead -/
theorem takesKind_none {w : World} {pb lc : Nat} {par : Par} {la : Option Addr} (kind : Int) (hp : ParB w pb par) (hl : par.list = .slice la 0 lc) :
    Calls Tryz.prog 29 #[.pointer (some ⟨pb, 0, none⟩), .int .i64 kind] w fun e w' => e = .returned (.bool false) ∧ ParB w' pb { par with naming := par.naming || (kind == 1) } ∧ Keeps (fun k => k = pb) w w' := by
  have hh : w.heap[pb]? = _ := hp
  have d1 := hp.cell 1 (v := par.list) rfl
  rw [hl] at d1
  have d10 := hp.cell 10 (v := .bool par.naming) rfl
  have f10 := hp.thawed 10
  have HP : Hid (ParB w pb par) := hp
  clear hp
  cases hnm : par.naming
  · rw [hnm] at d10
    have HN : Hid (par.naming = false) := hnm
    clear hnm
    go_enter Tryz.func29, Tryz.ntmps29
    go_wp2_with fail
    go_ret
    exact ⟨rfl, Par.set10 HP.out (kind == 1), Keeps.setCell _ _ 10 _⟩
  · rw [hnm] at d10
    have HN : Hid (par.naming = true) := hnm
    clear hnm
    go_enter Tryz.func29, Tryz.ntmps29
    go_wp2_with fail
    go_ret
    exact ⟨rfl, Par.set10 HP.out true, Keeps.setCell _ _ 10 _⟩
set_option maxRecDepth 100000 in
set_option maxHeartbeats 2000000 in
/-- a lexeme of another kind is ahead -/
theorem takesKind_other {w : World} {pb g off m lc : Nat} {par : Par} {tk : Int} (kind : Int) (hp : ParB w pb par) (hl : par.list = .slice (some ⟨g, off, none⟩) m lc) (hm : 0 < m) (hgb : g ≠ pb) (h0 : w.cell? ⟨g, off, none⟩ = some (.int .i64 tk)) (hne : tk ≠ kind) :
    Calls Tryz.prog 29 #[.pointer (some ⟨pb, 0, none⟩), .int .i64 kind] w fun e w' => e = .returned (.bool false) ∧ ParB w' pb { par with naming := par.naming || (kind == 1) } ∧ Keeps (fun k => k = pb) w w' := by
  have hh : w.heap[pb]? = _ := hp
  have d1 := hp.cell 1 (v := par.list) rfl
  rw [hl] at d1
  have d10 := hp.cell 10 (v := .bool par.naming) rfl
  have f10 := hp.thawed 10
  have im : ((m : Int) == 0) = false := beq_eq_false_iff_ne.2 (by omega)
  have ik : (tk == kind) = false := beq_eq_false_iff_ne.2 hne
  have ij : (tk != kind) = true := by rw [bne, ik]; rfl
  have HP : Hid (ParB w pb par) := hp
  clear hp
  cases hnm : par.naming
  · rw [hnm] at d10
    have HN : Hid (par.naming = false) := hnm
    clear hnm
    go_enter Tryz.func29, Tryz.ntmps29
    go_wp2_with fail
    go_ret
    exact ⟨rfl, Par.set10 HP.out (kind == 1), Keeps.setCell _ _ 10 _⟩
  · rw [hnm] at d10
    have HN : Hid (par.naming = true) := hnm
    clear hnm
    go_enter Tryz.func29, Tryz.ntmps29
    go_wp2_with fail
    go_ret
    exact ⟨rfl, Par.set10 HP.out true, Keeps.setCell _ _ 10 _⟩
set_option maxRecDepth 100000 in
set_option maxHeartbeats 2000000 in
/-- a lexeme of this kind is ahead -/
theorem takesKind_this {w : World} {pb g off m lc wl wc : Nat} {wa : Option Addr} {par : Par} {tn ta te : Int} {ts : ByteArray} (kind : Int) (hp : ParB w pb par) (hl : par.list = .slice (some ⟨g, off, none⟩) m lc) (hm : 0 < m) (hmc : m ≤ lc) (hw : par.words = .slice wa wl wc) (hgb : g ≠ pb) (h0 : w.cell? ⟨g, off, none⟩ = some (.int .i64 kind))
    (h1 : w.cell? ⟨g, off + 1, none⟩ = some (.int .u64 tn)) (h2 : w.cell? ⟨g, off + 2, none⟩ = some (.string ts)) (h3 : w.cell? ⟨g, off + 3, none⟩ = some (.int .i64 ta)) (h4 : w.cell? ⟨g, off + 4, none⟩ = some (.int .i64 te))
    (ho : 0 ≤ par.open_ ∧ par.open_ ≤ 1000) (ho2 : openN kind par.open_ ≤ 32) :
    Calls Tryz.prog 29 #[.pointer (some ⟨pb, 0, none⟩), .int .i64 kind] w fun e w' => e = .returned (.bool true) ∧ ParB w' pb { par with list := tailV g off m lc, kind := kind, n := tn, s := ts, at_ := ta, till := te, words := .slice wa 0 wc, naming := false, open_ := openN kind par.open_ } ∧ Keeps (fun k => k = pb) w w' := by
  have hh : w.heap[pb]? = _ := hp
  have d1 := hp.cell 1 (v := par.list) rfl
  rw [hl] at d1
  have d10 := hp.cell 10 (v := .bool par.naming) rfl
  have f10 := hp.thawed 10
  have im : ((m : Int) == 0) = false := beq_eq_false_iff_ne.2 (by omega)
  have ij : (kind != kind) = false := by simp
  have HP : Hid (ParB w pb par) := hp
  have HS : Hid (∀ nm w1, w1 = w.setCell ⟨pb, 10, none⟩ (.bool nm) → Calls Tryz.prog 43 #[.pointer (some ⟨pb, 0, none⟩)] w1 fun e w' => e = .returned (.tuple #[]) ∧ ParB w' pb { par with list := tailV g off m lc, kind := kind, n := tn, s := ts, at_ := ta, till := te, words := .slice wa 0 wc, naming := false, open_ := openN kind par.open_ } ∧ Keeps (fun k => k = pb) w w') := by
    intro nm w1 e1
    subst e1
    have hk : Keeps (fun k => k = pb) w (w.setCell ⟨pb, 10, none⟩ (.bool nm)) := Keeps.setCell _ _ 10 _
    have hs := step_any (Par.set10 hp nm) hl hm hmc hw (cell_keeps h0 hk hgb) (cell_keeps h1 hk hgb) (cell_keeps h2 hk hgb) (cell_keeps h3 hk hgb) (cell_keeps h4 hk hgb) ho ho2
    exact hs.mono (fun e w' h => ⟨h.1, h.2.1, hk.trans h.2.2 (fun _ _ e => e)⟩)
  clear hp h1 h2 h3 h4 ho ho2
  cases hnm : par.naming
  · rw [hnm] at d10
    have HN : Hid (par.naming = false) := hnm
    clear hnm
    go_enter Tryz.func29, Tryz.ntmps29
    go_wp2_with fail
    refine (HS.out (kind == 1) _ rfl).mono ?_
    rintro e w5 ⟨rfl, hb5, hk5⟩
    have HB5 := Lib.hid hb5
    have HK5 := Lib.hid hk5
    clear hb5 hk5
    go_wp2_with fail
    go_ret
    exact ⟨rfl, HB5.out, HK5.out⟩
  · rw [hnm] at d10
    have HN : Hid (par.naming = true) := hnm
    clear hnm
    go_enter Tryz.func29, Tryz.ntmps29
    go_wp2_with fail
    refine (HS.out true _ rfl).mono ?_
    rintro e w5 ⟨rfl, hb5, hk5⟩
    have HB5 := Lib.hid hb5
    have HK5 := Lib.hid hk5
    clear hb5 hk5
    go_wp2_with fail
    go_ret
    exact ⟨rfl, HB5.out, HK5.out⟩
end Go.Proofs.YtmkibolkcjallaaGreatDoor
