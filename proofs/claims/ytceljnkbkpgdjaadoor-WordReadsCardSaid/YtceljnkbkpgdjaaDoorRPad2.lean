/- Reader.Pad, Reader.Bytes. -/
import Derived.Test.YtceljnkbkpgdjaaDoorRPad
namespace Go.Proofs.YtceljnkbkpgdjaaDoor
open Go.RowKit
theorem gapN_le (n al : Nat) (h1 : 1 ≤ al) (h2 : al ≤ 4096) : gapN n al ≤ 4096 := Nat.le_trans (Nat.le_of_lt (Nat.mod_lt _ h1)) h2
set_option maxRecDepth 100000 in
set_option maxHeartbeats 2000000 in
theorem rpad_yes {w : World} {p g : Nat} {zs : List Nat} {pos al : Nat} (h : Rd w p g zs pos 0) (h1 : 1 ≤ al) (h2 : al ≤ 4096) (hl : pos + gapN pos al ≤ zs.length) (hz : ∀ z ∈ (zs.drop pos).take (gapN pos al), z = 0) :
    Calls Tryd.prog 55 #[.pointer (some ⟨p, 0, none⟩), .int .i64 (al : Int)] w fun e w' => e = .returned (.tuple #[]) ∧ Rd w' p g zs (pos + gapN pos al) 0 ∧ Keeps (fun k => k = p) w w' := by
  have c1 := h.cell1
  have c2 := h.cell2
  have HR : Hid (Rd w p g zs pos 0) := h
  have h6 := h.2.2.2.2.2
  have HZ : Hid (∀ z ∈ (zs.drop pos).take (gapN pos al), z = 0) := hz
  have hgl := gapN_le pos al h1 h2
  have HG : Hid (Calls Tryd.prog 66 #[.int .i64 (pos : Int), .int .i64 (al : Int)] w fun e w' => e = .returned (.int .i64 (gapN pos al : Nat)) ∧ w' = w) := gap_any pos al w h1 h2 (by omega)
  clear h hz
  generalize gapN pos al = n at *
  go_enter Tryd.func55, Tryd.ntmps55
  go_wp2_with (go_at_call 65; refine (isAlign_yes (al : Int) _ (by omega) (by omega)).mono ?_; rintro e w' ⟨rfl, hw⟩; have hw := hw.symm; subst hw)
  refine HG.out.mono ?_
  rintro e w' ⟨rfl, hw⟩
  rw [hw]
  clear hw w'
  go_wp2_with fail
  refine (rleft_any HR.out).mono ?_
  rintro e w1 ⟨rfl, hs⟩
  have HS1 : Hid (Stay w w1) := hs
  have HR1 : Hid (Rd w1 p g zs pos 0) := Stay.rd hs HR.out
  clear hs c1 c2 HG
  go_wp2_with fail
  refine (rest_any HR1.out).mono ?_
  rintro e w2 ⟨ao, c, rfl, hs, hc, ha, hst⟩
  have HS2 : Hid (Stay w w2) := HS1.out.trans hst
  have HR2 : Hid (Rd w2 p g zs pos 0) := Stay.rd hst HR1.out
  have HSl : Hid (Sl w2 (.slice ao n c) ((zs.drop pos).take n)) := hs.head n (by rw [List.length_drop]; omega)
  obtain rfl := hc
  clear hs ha hst HR1 HS1
  go_wp2_with fail
  refine (zeros_yes HSl.out HZ.out).mono ?_
  rintro e w' ⟨rfl, hw⟩
  rw [hw]
  clear hw w'
  have c1 := HR2.out.cell1
  have t1 := HR2.out.thawed 1
  go_wp2
  go_end0
  refine ⟨rfl, ?_, (HS2.out.keeps).trans (Keeps.setCell w2 p 1 _) (fun i _ e => e)⟩
  have := HR2.out.moved (pos + n) hl
  rw [Int.natCast_add] at this
  exact this
set_option maxHeartbeats 1000000 in
theorem rpad_bad {w : World} {p g : Nat} {zs : List Nat} {pos : Nat} {al : Int} (h : Rd w p g zs pos 0) (ha : al < 1 ∨ 4096 < al) :
    Calls Tryd.prog 55 #[.pointer (some ⟨p, 0, none⟩), .int .i64 al] w fun e w' => e = .returned (.tuple #[]) ∧ Rd w' p g zs pos 1 ∧ Keeps (fun k => k = p) w w' := by
  have c2 := h.cell2
  have t2 := h.thawed 2
  have HR : Hid (Rd w p g zs pos 0) := h
  have HA : Hid (al < 1 ∨ 4096 < al) := ha
  clear h ha
  go_enter Tryd.func55, Tryd.ntmps55
  go_wp2_with (go_at_call 65; refine (isAlign_no al _ HA.out).mono ?_; rintro e w' ⟨rfl, hw⟩; have hw := hw.symm; subst hw)
  refine bodyPost_ret (results_none rfl _ _ _) rfl ?_
  exact ⟨rfl, HR.out.refuse 1, Keeps.setCell w p 2 _⟩
set_option maxHeartbeats 400000 in
theorem rpad_not {w : World} {p g : Nat} {zs : List Nat} {pos : Nat} {al why : Int} (h : Rd w p g zs pos why) (hw : why ≠ 0) :
    Calls Tryd.prog 55 #[.pointer (some ⟨p, 0, none⟩), .int .i64 al] w fun e w' => e = .returned (.tuple #[]) ∧ w' = w := by
  have c2 := h.cell2
  have hb : (why != 0) = true := by simpa using hw
  clear h
  go_enter Tryd.func55, Tryd.ntmps55
  go_wp2
  refine bodyPost_ret (results_none rfl _ _ _) rfl ?_
  exact ⟨rfl, rfl⟩
set_option maxRecDepth 100000 in
set_option maxHeartbeats 2000000 in
theorem rpad_short {w : World} {p g : Nat} {zs : List Nat} {pos al : Nat} (h : Rd w p g zs pos 0) (h1 : 1 ≤ al) (h2 : al ≤ 4096) (hl : zs.length < pos + gapN pos al) :
    Calls Tryd.prog 55 #[.pointer (some ⟨p, 0, none⟩), .int .i64 (al : Int)] w fun e w' => e = .returned (.tuple #[]) ∧ Rd w' p g zs pos 10 ∧ Keeps (fun k => k = p) w w' := by
  have c1 := h.cell1
  have c2 := h.cell2
  have HR : Hid (Rd w p g zs pos 0) := h
  have h6 := h.2.2.2.2.2
  have h4 := h.2.2.2.1
  have hgl := gapN_le pos al h1 h2
  have HG : Hid (Calls Tryd.prog 66 #[.int .i64 (pos : Int), .int .i64 (al : Int)] w fun e w' => e = .returned (.int .i64 (gapN pos al : Nat)) ∧ w' = w) := gap_any pos al w h1 h2 (by omega)
  clear h
  generalize gapN pos al = n at *
  go_enter Tryd.func55, Tryd.ntmps55
  go_wp2_with (go_at_call 65; refine (isAlign_yes (al : Int) _ (by omega) (by omega)).mono ?_; rintro e w' ⟨rfl, hw⟩; have hw := hw.symm; subst hw)
  refine HG.out.mono ?_
  rintro e w' ⟨rfl, hw⟩
  rw [hw]
  clear hw w'
  go_wp2_with fail
  refine (rleft_any HR.out).mono ?_
  rintro e w1 ⟨rfl, hs⟩
  have HS1 : Hid (Stay w w1) := hs
  have HR1 : Hid (Rd w1 p g zs pos 0) := Stay.rd hs HR.out
  clear hs c1 c2 HG
  have c2 := HR1.out.cell2
  have t2 := HR1.out.thawed 2
  go_wp2
  go_end0
  exact ⟨rfl, HR1.out.refuse 10, (HS1.out.keeps).trans (Keeps.setCell w1 p 2 _) (fun i _ e => e)⟩
set_option maxRecDepth 100000 in
set_option maxHeartbeats 2000000 in
theorem rpad_form {w : World} {p g : Nat} {zs : List Nat} {pos al : Nat} (h : Rd w p g zs pos 0) (h1 : 1 ≤ al) (h2 : al ≤ 4096) (hl : pos + gapN pos al ≤ zs.length) (hz : ¬ ∀ z ∈ (zs.drop pos).take (gapN pos al), z = 0) :
    Calls Tryd.prog 55 #[.pointer (some ⟨p, 0, none⟩), .int .i64 (al : Int)] w fun e w' => e = .returned (.tuple #[]) ∧ Rd w' p g zs pos 5 ∧ Keeps (fun k => k = p) w w' := by
  have c1 := h.cell1
  have c2 := h.cell2
  have HR : Hid (Rd w p g zs pos 0) := h
  have h6 := h.2.2.2.2.2
  have HZ : Hid (¬ ∀ z ∈ (zs.drop pos).take (gapN pos al), z = 0) := hz
  have hgl := gapN_le pos al h1 h2
  have HG : Hid (Calls Tryd.prog 66 #[.int .i64 (pos : Int), .int .i64 (al : Int)] w fun e w' => e = .returned (.int .i64 (gapN pos al : Nat)) ∧ w' = w) := gap_any pos al w h1 h2 (by omega)
  clear h hz
  generalize gapN pos al = n at *
  go_enter Tryd.func55, Tryd.ntmps55
  go_wp2_with (go_at_call 65; refine (isAlign_yes (al : Int) _ (by omega) (by omega)).mono ?_; rintro e w' ⟨rfl, hw⟩; have hw := hw.symm; subst hw)
  refine HG.out.mono ?_
  rintro e w' ⟨rfl, hw⟩
  rw [hw]
  clear hw w'
  go_wp2_with fail
  refine (rleft_any HR.out).mono ?_
  rintro e w1 ⟨rfl, hs⟩
  have HS1 : Hid (Stay w w1) := hs
  have HR1 : Hid (Rd w1 p g zs pos 0) := Stay.rd hs HR.out
  clear hs c1 c2 HG
  go_wp2_with fail
  refine (rest_any HR1.out).mono ?_
  rintro e w2 ⟨ao, c, rfl, hs, hc, ha, hst⟩
  have HS2 : Hid (Stay w w2) := HS1.out.trans hst
  have HR2 : Hid (Rd w2 p g zs pos 0) := Stay.rd hst HR1.out
  have HSl : Hid (Sl w2 (.slice ao n c) ((zs.drop pos).take n)) := hs.head n (by rw [List.length_drop]; omega)
  obtain rfl := hc
  clear hs ha hst HR1 HS1
  go_wp2_with fail
  refine (zeros_no HSl.out HZ.out).mono ?_
  rintro e w' ⟨rfl, hw⟩
  rw [hw]
  clear hw w'
  have c2 := HR2.out.cell2
  have t2 := HR2.out.thawed 2
  go_wp2
  go_end0
  exact ⟨rfl, HR2.out.refuse 5, (HS2.out.keeps).trans (Keeps.setCell w2 p 2 _) (fun i _ e => e)⟩
end Go.Proofs.YtceljnkbkpgdjaaDoor
