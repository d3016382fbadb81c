/- Syntax: stop. -/
import Derived.Test.YtmkibolkcjallaaGreatDoorSyTake
namespace Go.Proofs.YtmkibolkcjallaaGreatDoor
open Go.RowKit
set_option maxRecDepth 100000 in
set_option maxHeartbeats 2000000 in
theorem stop_any {w : World} {pb : Nat} {par : Par} {x y : Int} (hp : ParB w pb par) :
    Calls Tryz.prog 44 #[.pointer (some ⟨pb, 0, none⟩), .int .i64 x, .int .i64 y] w fun e w' => e = .panicked [{ v := .iface 31 (.int .i64 y), recovered := false }] ∧ ParB w' pb { par with wrong := x, why := y } ∧ Keeps (fun k => k = pb) w w' := by
  have hh : w.heap[pb]? = _ := hp
  have d12 := hp.cell 12 (v := .int .i64 par.wrong) rfl
  have d13 := hp.cell 13 (v := .int .i64 par.why) rfl
  have f12 := hp.thawed 12
  have f13 := hp.thawed 13
  have HP : Hid (ParB w pb par) := hp
  clear hp
  go_enter Tryz.func44, Tryz.ntmps44
  go_wp2_with fail
  exact ⟨rfl, rfl, Par.set13 (Par.set12 HP.out x) y, (Keeps.setCell _ _ 12 _).trans (Keeps.setCell _ _ 13 _) (fun _ _ e => e)⟩
end Go.Proofs.YtmkibolkcjallaaGreatDoor
