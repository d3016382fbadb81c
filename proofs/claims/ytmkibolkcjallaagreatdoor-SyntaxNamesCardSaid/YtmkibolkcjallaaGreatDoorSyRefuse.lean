/- Syntax: refuse, where nothing is ahead. -/
import Derived.Test.YtmkibolkcjallaaGreatDoorSyNeeds
namespace Go.Proofs.YtmkibolkcjallaaGreatDoor
open Go.RowKit
/-- how a refused text ends: its parser's panic -/
def stopE (y : Int) : Ending := .panicked [{ v := .iface 31 (.int .i64 y), recovered := false }]
set_option maxRecDepth 100000 in
set_option maxHeartbeats 2000000 in
theorem refuse_none {w : World} {pb lc : Nat} {par : Par} {la : Option Addr} (hp : ParB w pb par) (hl : par.list = .slice la 0 lc) :
    Calls Tryz.prog 28 #[.pointer (some ⟨pb, 0, none⟩)] w fun e w' => e = stopE 60 ∧ ParB w' pb { par with wrong := par.end_, why := 60 } ∧ Keeps (fun k => k = pb) w w' := by
  have hh : w.heap[pb]? = _ := hp
  have d1 := hp.cell 1 (v := par.list) rfl
  rw [hl] at d1
  have d2 := hp.cell 2 (v := .int .i64 par.end_) rfl
  have HP : Hid (ParB w pb par) := hp
  clear hp hl
  go_enter Tryz.func28, Tryz.ntmps28
  go_wp2_with fail
  refine (stop_any HP.out).mono ?_
  rintro e w5 ⟨rfl, hb5, hk5⟩
  have HB5 := Lib.hid hb5
  have HK5 := Lib.hid hk5
  clear hb5 hk5
  exact ⟨rfl, rfl, HB5.out, HK5.out⟩
set_option maxRecDepth 100000 in
set_option maxHeartbeats 2000000 in
theorem needs_none {w : World} {pb base lc : Nat} {par : Par} {la : Option Addr} {ws : List ByteArray} (t : ByteArray) (hp : ParB w pb par) (hl : par.list = .slice la 0 lc) (hw : OwnS w base par.words ws) (hne : par.words.ownBlock ≠ some pb) (hb : ws.length ≤ 1000) (hbase : base ≤ w.heap.size) :
    Calls Tryz.prog 15 #[.pointer (some ⟨pb, 0, none⟩), .string t] w fun e w' => e = stopE 60 ∧ ∃ wv, ParB w' pb { par with words := wv, wrong := par.end_, why := 60 } ∧ Keeps (fun k => k = pb ∨ par.words.ownBlock = some k) w w' := by
  have HT := Lib.hid (takes_none t hp hl hw hne hb hbase)
  have HL : Hid (par.list = .slice la 0 lc) := hl
  clear hw hne hb hbase hp hl
  go_enter Tryz.func15, Tryz.ntmps15
  go_wp2_with fail
  refine HT.out.mono ?_
  rintro e w5 ⟨rfl, wv, hb5, _, _, hk5⟩
  have HB5 := Lib.hid hb5
  have HK5 := Lib.hid hk5
  clear hb5 hk5
  go_wp2_with fail
  refine (refuse_none HB5.out HL.out).mono ?_
  rintro e w6 ⟨rfl, hb6, hk6⟩
  exact ⟨rfl, rfl, wv, hb6, HK5.out.trans hk6 (fun _ _ e => .inl e)⟩
set_option maxRecDepth 100000 in
set_option maxHeartbeats 2000000 in
/-- the lexemes of a text that is a row of lexemes -/
theorem cut_ok {w : World} {v : Value} {zs : List Nat} (ht : Tabs w) (hs : Sl w v zs) (hv : ∀ k, v.ownBlock = some k → k < w.heap.size) (h9 : 4 ≤ w.heap.size) (hok : (Sc.tokens zs).2.2 = 0) :
    Calls Tryz.prog 14 #[v] w fun e w' => ∃ lv, e = .returned (.tuple #[lv, .int .i64 (zs.length : Int), .bool true]) ∧ OwnT w' w.heap.size lv (Sc.tokens zs).1 ∧ Below w.heap.size w w' := by
  have HT := Lib.hid (tokens_any ht hs hv h9)
  have HO : Hid ((Sc.tokens zs).2.2 = 0) := hok
  obtain ⟨ao, cap, rfl, y1, y2, y3, y4, y5⟩ := hs
  clear y1 y2 y3 y4 y5 hv h9 ht hok
  go_enter Tryz.func14, Tryz.ntmps14
  go_wp2_with fail
  refine HT.out.mono ?_
  rintro e w5 ⟨lv, rfl, ho5, hb5⟩
  rw [HO.out]
  have H5 := Lib.hid (And.intro ho5 hb5)
  clear ho5 hb5
  go_wp2_with fail
  go_ret3
  exact ⟨lv, rfl, H5.out.1, H5.out.2⟩
end Go.Proofs.YtmkibolkcjallaaGreatDoor
