/- Syntax: refuse, where a lexeme is ahead. -/
import Derived.Test.YtmkibolkcjallaaGreatDoorSyRight
import Derived.Deep.RegionHeld3
import Derived.RegionDies
namespace Go.Proofs.YtmkibolkcjallaaGreatDoor
open Go.RowKit
set_option maxRecDepth 100000 in
set_option maxHeartbeats 2000000 in
/-- refuse, where a lexeme is ahead and no name was asked for, or none that a reserved word may begin -/
theorem refuse_some {w : World} {pb base b o cap n g off m lc p q : Nat} {par : Par} {ws : List ByteArray} {zs : List Nat} (hp : ParB w pb par) (hx : NextAt w par b o cap n g off m lc p q) (hsl : Sl w (.slice (some ⟨b, o + p, none⟩) (q - p) (cap - p)) zs) (hw : OwnS w base par.words ws) (hwb : ∀ s ∈ ws, s.size ≤ 1048576) (hzl : zs.length ≤ 1048576) (hwl : ws.length ≤ 1000) (hpl : p ≤ 1048576) (hnm : par.naming = false) :
    Calls Tryz.prog 28 #[.pointer (some ⟨pb, 0, none⟩)] w fun e w' => e = stopE 60 ∧ ParB w' pb { par with wrong := (p : Int) + (rightN ws zs : Nat), why := 60 } ∧ Keeps (fun k => k = pb) w w' := by
  have hh : w.heap[pb]? = _ := hp
  have d1 := hp.cell 1 (v := par.list) rfl
  rw [hx.list] at d1
  have ha := hx.at_
  have im : ((m : Int) == 0) = false := beq_eq_false_iff_ne.2 (by have := hx.some_; omega)
  have jm : (0 : Int) < (m : Int) := by have := hx.some_; omega
  have HR : Hid (∀ W, Below w.heap.size w W → Calls Tryz.prog 45 #[.pointer (some ⟨pb, 0, none⟩)] W fun e w' => e = .returned (.int .i64 (rightN ws zs : Nat)) ∧ (w'.cell? ⟨pb, 1, none⟩ = some (.slice (some ⟨g, off, none⟩) m lc) ∧ w'.cell? ⟨g, off + 3, none⟩ = some (.int .i64 (p : Int))) ∧ Hid (Below w.heap.size w w')) := fun W hW => by
    have hk : Keeps (fun _ => False) w W := Keeps.of_below hW
    refine (right_words (hp.below hW) ⟨hx.src, hx.list, hx.some_, hx.pq, hx.qn, hx.nc, cell_keeps (S := fun _ => False) hx.at_ hk id, cell_keeps (S := fun _ => False) hx.end_ hk id⟩ (hsl.below hW) (hw.keeps hk (fun _ _ e => e)) hwb hzl hwl hnm).mono ?_
    rintro e w' ⟨rfl, hb⟩
    have hb' : Below w.heap.size w w' := hW.trans (hb.mono hW.size)
    have hk' : Keeps (fun _ => False) w w' := Keeps.of_below hb'
    exact ⟨rfl, ⟨cell_keeps (S := fun _ => False) d1 hk' id, cell_keeps (S := fun _ => False) ha hk' id⟩, hb'⟩
  have HM : Hid (rightN ws zs ≤ 1048576 ∧ p ≤ 1048576) := ⟨Nat.le_trans (rightN_le _ _) hzl, hpl⟩
  have HP : Hid (ParB w pb par) := hp
  clear hp hx hsl hw hwb hzl hwl hnm hpl
  go_enter Tryz.func28, Tryz.ntmps28
  go_wp2_with fail
  have jw : IntKind.i64.wrap ((p : Int) + (rightN ws zs : Nat)) = (p : Int) + (rightN ws zs : Nat) := by
    have := HM.out
    simp [IntKind.wrap, IntKind.bits, IntKind.signed]
    omega
  have i6 : (0 : Nat) < m := by omega
  go_region_dies
  all_goals (rename_i K hK; refine (HR.out _ (Below.refl _ _).drew).mono ?_; rintro e w7 ⟨rfl, ⟨k3, k4⟩, HB7⟩; refine hK _ _ ?_; clear hK K)
  · refine wpAny_ready (rs := [10]) (by kernel_rfl) (by simp) ?_
    refine AllReady.cons rfl (fun K hK => ?_) AllReady.nil
    go_simp
    refine hK _ _ ?_
    clear hK K
    refine wpAny_ready (rs := [11]) (by kernel_rfl) (by simp) ?_
    refine AllReady.cons rfl (fun K hK => ?_) AllReady.nil
    go_simp
    refine (stop_any (HP.out.below HB7.out)).mono ?_
    rintro e w8 ⟨rfl, hb8, hk8⟩
    exact ⟨rfl, rfl, hb8, (Keeps.of_below (S := fun k => k = pb) HB7.out).trans hk8 (fun _ _ e => e)⟩
  · refine wpAny_ready (rs := [7]) (by kernel_rfl) (by simp) ?_
    refine AllReady.cons rfl (fun K hK => ?_) AllReady.nil
    go_simp
    refine hK _ _ ?_
    clear hK K
    refine wpAny_ready (rs := [10]) (by kernel_rfl) (by simp) ?_
    refine AllReady.cons rfl (fun K hK => ?_) AllReady.nil
    go_simp
    refine hK _ _ ?_
    clear hK K
    refine wpAny_ready (rs := [11]) (by kernel_rfl) (by simp) ?_
    refine AllReady.cons rfl (fun K hK => ?_) AllReady.nil
    go_simp
    refine (stop_any (HP.out.below HB7.out)).mono ?_
    rintro e w8 ⟨rfl, hb8, hk8⟩
    exact ⟨rfl, rfl, hb8, (Keeps.of_below (S := fun k => k = pb) HB7.out).trans hk8 (fun _ _ e => e)⟩
  · refine wpAny_ready (rs := [4]) (by kernel_rfl) (by simp) ?_
    refine AllReady.cons rfl (fun K hK => ?_) AllReady.nil
    go_simp
    refine hK _ _ ?_
    clear hK K
    refine wpAny_ready (rs := [5]) (by kernel_rfl) (by simp) ?_
    refine AllReady.cons rfl (fun K hK => ?_) AllReady.nil
    go_simp
    refine hK _ _ ?_
    clear hK K
    refine wpAny_ready (rs := [6]) (by kernel_rfl) (by simp) ?_
    refine AllReady.cons rfl (fun K hK => ?_) AllReady.nil
    go_simp
    refine hK _ _ ?_
    clear hK K
    refine wpAny_ready (rs := [7]) (by kernel_rfl) (by simp) ?_
    refine AllReady.cons rfl (fun K hK => ?_) AllReady.nil
    go_simp
    refine hK _ _ ?_
    clear hK K
    refine wpAny_ready (rs := [10]) (by kernel_rfl) (by simp) ?_
    refine AllReady.cons rfl (fun K hK => ?_) AllReady.nil
    go_simp
    refine hK _ _ ?_
    clear hK K
    refine wpAny_ready (rs := [11]) (by kernel_rfl) (by simp) ?_
    refine AllReady.cons rfl (fun K hK => ?_) AllReady.nil
    go_simp
    refine (stop_any (HP.out.below HB7.out)).mono ?_
    rintro e w8 ⟨rfl, hb8, hk8⟩
    exact ⟨rfl, rfl, hb8, (Keeps.of_below (S := fun k => k = pb) HB7.out).trans hk8 (fun _ _ e => e)⟩
end Go.Proofs.YtmkibolkcjallaaGreatDoor
