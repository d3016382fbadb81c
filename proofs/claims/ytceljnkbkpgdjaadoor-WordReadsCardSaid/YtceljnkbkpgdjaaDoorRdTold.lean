/- WordReads: told. Own work. -/
import Derived.Test.YtceljnkbkpgdjaaDoorRdUni
namespace Go.Proofs.YtceljnkbkpgdjaaDoor
open Go.RowKit
set_option linter.unusedVariables false
theorem cell_heap {w w' : World} (h : w'.heap = w.heap) (a : Addr) : w'.cell? a = w.cell? a := by simp [World.cell?, h]
theorem Rd.heap {w w' : World} {p g : Nat} {zs : List Nat} {pos : Nat} {why : Int} (hr : Rd w p g zs pos why) (h : w'.heap = w.heap) : Rd w' p g zs pos why := by
  obtain ⟨h1, h2, h3⟩ := hr
  refine ⟨by rw [h]; exact h1, ?_, h3⟩
  unfold Row at h2 ⊢
  rw [h]
  exact h2
theorem Sl.heap {w w' : World} {v : Value} {zs : List Nat} (hs : Sl w v zs) (h : w'.heap = w.heap) : Sl w' v zs := by
  obtain ⟨ao, cap, e, h1, h2, h3, h4, h5⟩ := hs
  refine ⟨ao, cap, e, h1, h2, h3, h4, fun i hi => ?_⟩
  obtain ⟨b, o, e, hc⟩ := h5 i hi
  exact ⟨b, o, e, (cell_heap h _).trans hc⟩
theorem Rr.heap {w w' : World} {p : Nat} {v : Value} {zs : List Nat} {pos : Nat} {why : Int} (hr : Rr w p v zs pos why) (h : w'.heap = w.heap) : Rr w' p v zs pos why := ⟨by rw [h]; exact hr.1, hr.2.1.heap h, hr.2.2⟩
theorem Stay.heap {w w' : World} (h : Stay w w') : w'.heap = w.heap := h.1
set_option maxRecDepth 100000 in
set_option maxHeartbeats 4000000 in
theorem told_any {w : World} {p g r : Nat} {v : Value} {zs : List Nat} {pos : Nat} {why : Int} (h : Rd w p g zs pos why) (hr : Rr w r v zs pos why) (h0 : 0 ≤ why) (h1 : why ≤ 12) :
    Calls Tryd.prog 13 #[.pointer (some ⟨p, 0, none⟩), .pointer (some ⟨r, 0, none⟩)] w fun e w' => e = .returned (.bool true) ∧ Stay w w' := by
  have HAt : Hid (∀ W, W.heap = w.heap → Calls Tryd.prog 26 #[.pointer (some ⟨p, 0, none⟩)] W fun e w' => e = .returned (.int .i64 (pos : Int)) ∧ w' = W) := fun W hW => rat_any (h.heap hW)
  have HLe : Hid (∀ W, W.heap = w.heap → Calls Tryd.prog 27 #[.pointer (some ⟨p, 0, none⟩)] W fun e w' => e = .returned (.int .i64 ((zs.length - pos : Nat) : Int)) ∧ w'.heap = W.heap ∧ Below W.heap.size W w') := fun W hW => rleft_any (h.heap hW)
  have HEr : Hid (∀ W, W.heap = w.heap → Calls Tryd.prog 28 #[.pointer (some ⟨p, 0, none⟩)] W fun e w' => e = .returned (.int .i64 why) ∧ w' = W) := fun W hW => rerr_any (h.heap hW)
  have HEn : Hid (∀ W, W.heap = w.heap → Calls Tryd.prog 29 #[.pointer (some ⟨p, 0, none⟩)] W fun e w' => e = .returned (.int .i64 (endA zs pos why)) ∧ Stay W w') := fun W hW => prEnd_any (h.heap hW)
  have HRn : Hid (∀ W, W.heap = w.heap → Calls Tryd.prog 30 #[.pointer (some ⟨r, 0, none⟩)] W fun e w' => e = .returned (.int .i64 (endA zs pos why)) ∧ w'.heap = W.heap ∧ Below W.heap.size W w') := fun W hW => rrEnd_any (hr.heap hW)
  have HRr := Lib.hid hr
  obtain ⟨va, vc, rfl, hv1, hv2, _⟩ := id hr.2.1
  have hpz := hr.2.2.2.1
  have hzz := hr.2.2.2.2
  have jw : IntKind.i64.wrap why = why := by rw [IntKind.wrap_i64]; omega
  have jd : IntKind.i64.wrap ((zs.length : Int) - (pos : Int)) = ((zs.length - pos : Nat) : Int) := by rw [IntKind.wrap_i64]; omega
  obtain ⟨en, hen⟩ : ∃ en, endA zs pos why = en := ⟨_, rfl⟩
  have hen1 : 0 ≤ en ∧ en ≤ 12 := by
    rw [← hen]
    unfold endA
    split
    · exact ⟨by decide, by decide⟩
    · exact ⟨h0, h1⟩
  have je : IntKind.i64.wrap en = en := by rw [IntKind.wrap_i64]; omega
  rw [hen] at HEn HRn
  obtain ⟨dl, hdl⟩ : ∃ dl : Nat, zs.length - pos = dl := ⟨_, rfl⟩
  rw [hdl] at HLe jd
  clear h hr hen hdl hen1
  go_enter Tryd.func13, Tryd.ntmps13
  go_wp2_with fail
  go_loopw [5] (fun kv wr => ∃ k : Nat, k ≤ 2 ∧ kv = .int .i64 (k : Int) ∧ Hid (Stay w wr)) (fun kv _ => 2 - (intOf kv).toNat)
  case atStart => exact ⟨0, by omega, rfl, Stay.refl w⟩
  case round =>
    obtain ⟨k, hk, rfl, HS⟩ := hrel
    by_cases hk2 : k < 2
    · have jk : (k : Int) < 2 := by omega
      have jw1 : IntKind.i64.wrap ((k : Int) + 1) = ((k + 1 : Nat) : Int) := by rw [IntKind.wrap_i64]; omega
      have hrw := HRr.out.heap HS.out.1
      have c0 := hrw.cell0
      have c1 := hrw.cell1
      have c2 := hrw.cell2
      have HhD : Hid (wr.drew.heap = w.heap) := HS.out.1
      have HbD : Hid (Below w.heap.size w wr.drew) := HS.out.2.drew
      have HCe : Hid (∀ W : World, W.heap = w.heap → W.cell? ⟨r, 0, none⟩ = some (.slice va zs.length vc) ∧ W.cell? ⟨r, 1, none⟩ = some (.int .i64 (pos : Int)) ∧ W.cell? ⟨r, 2, none⟩ = some (.int .i64 why)) := fun W hW => by
        have := HRr.out.heap hW
        exact ⟨this.cell0, this.cell1, this.cell2⟩
      clear hrw
      go_wp2_with fail
      go_region_held3 (fun w' => w'.cell? ⟨r, 0, none⟩ = some (.slice va zs.length vc) ∧ w'.cell? ⟨r, 1, none⟩ = some (.int .i64 (pos : Int)) ∧ w'.cell? ⟨r, 2, none⟩ = some (.int .i64 why)) (first | exact ⟨c0, c1, c2⟩ | exact hSC | exact hSB | exact hSA) (first
        | (go_at_call 26; refine (HAt.out _ HhD.out).mono ?_; rintro e w' ⟨rfl, hw⟩; have hw := hw.symm; subst hw)
        | (go_at_call 27; refine (HLe.out _ HhD.out).mono ?_; rintro e wA ⟨rfl, hhA, hbA⟩; have HhA : Hid (wA.heap = w.heap) := hhA.trans HhD.out; have HbA : Hid (Below w.heap.size w wA) := HbD.out.trans (hbA.mono HbD.out.size); have hSA := HCe.out wA HhA.out; clear hhA hbA)
        | (go_at_call 28; refine (HEr.out _ HhA.out).mono ?_; rintro e w' ⟨rfl, hw⟩; have hw := hw.symm; subst hw)
        | (go_at_call 29; refine (HEn.out _ HhA.out).mono ?_; rintro e wB ⟨rfl, hsB⟩; have HhB : Hid (wB.heap = w.heap) := hsB.1.trans HhA.out; have HbB : Hid (Below w.heap.size w wB) := HbA.out.trans (hsB.2.mono HbA.out.size); have hSB := HCe.out wB HhB.out; clear hsB)
        | (go_at_call 30; refine (HRn.out _ HhB.out).mono ?_; rintro e wC ⟨rfl, hhC, hbC⟩; have HhC : Hid (wC.heap = w.heap) := hhC.trans HhB.out; have HbC : Hid (Below w.heap.size w wC) := HbB.out.trans (hbC.mono HbB.out.size); have hSC := HCe.out wC HhC.out; clear hhC hbC))
      go_wp2_with fail
      go_roundw
      case rel => exact ⟨k + 1, by omega, rfl, ⟨HhC.out, HbC.out⟩⟩
      case measure => simp [intOf]; omega
    · have hk3 : k = 2 := by omega
      subst hk3
      go_wp2_with fail
      go_ret
      exact ⟨rfl, HS.out⟩
end Go.Proofs.YtceljnkbkpgdjaaDoor
