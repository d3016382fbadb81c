import Derived.Test.YtnifefmfhjfbnaaGreatDoorPk08
/- Reader.End, areZeros, Reader.Pad, Reader.Bytes. -/
namespace Go.Proofs.YtnifefmfhjfbnaaGreatDoor
open Go.RowKit
/-- nothing but the count of draws has changed -/
def Stay (w w' : World) : Prop := w'.heap = w.heap ∧ Below w.heap.size w w'
theorem Stay.refl (w : World) : Stay w w := ⟨rfl, Below.refl _ _⟩
theorem Stay.keeps {S : Nat → Prop} {w w' : World} (h : Stay w w') : Keeps S w w' := Keeps.of_below h.2
theorem Stay.rd {w w' : World} {p g : Nat} {zs : List Nat} {pos : Nat} {why : Int} (h : Stay w w') (hr : Rd w p g zs pos why) : Rd w' p g zs pos why := hr.keeps (h.keeps (S := fun _ => False)) (fun h => h) (fun h => h)
theorem Stay.trans {a b c : World} (h : Stay a b) (k : Stay b c) : Stay a c := ⟨k.1.trans h.1, h.2.trans (k.2.mono (by rw [h.1]; exact Nat.le_refl _))⟩
theorem Sl.head {w : World} {ao : Option Addr} {m cap : Nat} {zs : List Nat} (h : Sl w (.slice ao m cap) zs) (n : Nat) (hn : n ≤ zs.length) : Sl w (.slice ao n cap) (zs.take n) := by
 obtain ⟨a, c, e, h1, h2, h3, h4, h5⟩ := h
 cases e
 refine ⟨ao, cap, by rw [List.length_take, Nat.min_eq_left hn], by rw [List.length_take]; omega, h2, fun z hz => h3 z (List.mem_of_mem_take hz), h4, fun i hi => ?_⟩
 rw [List.length_take] at hi
 obtain ⟨b, o, e, hc⟩ := h5 i (by omega)
 refine ⟨b, o, e, hc.trans ?_⟩
 rw [List.getD_eq_getElem?_getD, List.getD_eq_getElem?_getD, List.getElem?_take, if_pos (by omega)]
set_option maxHeartbeats 400000 in
theorem end_some {w : World} {p g : Nat} {zs : List Nat} {pos : Nat} (h : Rd w p g zs pos 0) (hl : pos < zs.length) :
  Calls Tryz.prog 57 #[.pointer (some ⟨p, 0, none⟩)] w fun e w' => e = .returned (.int .i64 12) ∧ Stay w w' := by
 have c2 := h.cell2
 have HR : Hid (Rd w p g zs pos 0) := h
 clear h
 go_enter Tryz.func57, Tryz.ntmps57
 go_wp2_with fail
 refine (rleft_any HR.out).mono ?_
 rintro e w1 ⟨rfl, hs⟩
 have HS : Hid (Stay w w1) := hs
 clear hs
 go_wp2
 go_ret
 exact ⟨rfl, HS.out⟩
set_option maxHeartbeats 400000 in
theorem end_none {w : World} {p g : Nat} {zs : List Nat} {pos : Nat} (h : Rd w p g zs pos 0) (hl : pos = zs.length) :
  Calls Tryz.prog 57 #[.pointer (some ⟨p, 0, none⟩)] w fun e w' => e = .returned (.int .i64 0) ∧ Stay w w' := by
 have c2 := h.cell2
 have HR : Hid (Rd w p g zs pos 0) := h
 have HL : Hid (Calls Tryz.prog 107 #[.pointer (some ⟨p, 0, none⟩)] w fun e w' => e = .returned (.int .i64 0) ∧ Stay w w') := by
  have := rleft_any h
  rw [hl, Nat.sub_self] at this
  exact this
 clear h hl
 go_enter Tryz.func57, Tryz.ntmps57
 go_wp2_with fail
 refine HL.out.mono ?_
 rintro e w1 ⟨rfl, hs⟩
 have HS : Hid (Stay w w1) := hs
 have c3 := (hs.rd HR.out).cell2
 clear hs HL c2
 go_wp2
 go_ret
 exact ⟨rfl, HS.out⟩
set_option maxHeartbeats 1000000 in
theorem zeros_pos (zs : List Nat) (b o cap : Nat) (w : World) (h1 : zs.length ≤ cap) (h2 : cap ≤ maxLen) (hz : ∀ z ∈ zs, z = 0)
  (hc : ∀ i, i < zs.length → w.cell? ⟨b, o + i, none⟩ = some (.int .u8 (zs.getD i 0 : Nat))) :
  Calls Tryz.prog 148 #[.slice (some ⟨b, o, none⟩) zs.length cap] w fun e w' => e = .returned (.bool true) ∧ w' = w := by
 unfold maxLen at h2
 have HC : Hid (∀ i, i < zs.length → w.cell? ⟨b, o + i, none⟩ = some (.int .u8 (zs.getD i 0 : Nat))) := hc
 have HZ : Hid (∀ z ∈ zs, z = 0) := hz
 clear hc hz
 go_enter Tryz.func148, Tryz.ntmps148
 go_wp2
 go_loop [4, 7] (fun _ i => ∃ k : Nat, k ≤ zs.length ∧ i = .int .i64 (k : Int)) (fun _ i => zs.length - (intOf i).toNat)
 case atStart => exact ⟨0, by omega, rfl⟩
 case round =>
  obtain ⟨k, hk, rfl⟩ := hrel
  by_cases hlt : k < zs.length
  ·have q := HC.out k hlt
   have e : zs.getD k 0 = 0 := by rw [List.getD_eq_getElem?_getD, List.getElem?_eq_getElem hlt]; exact HZ.out _ (List.getElem_mem hlt)
   rw [e] at q
   clear e
   go_wp2
   go_round
   case rel => exact ⟨k + 1, by omega, by go_num⟩
   case measure => simp [intOf]; omega
  ·go_wp2
   go_ret
   exact ⟨rfl, rfl⟩
set_option maxHeartbeats 400000 in
theorem zeros_none (ao : Option Addr) (cap : Nat) (w : World) :
  Calls Tryz.prog 148 #[.slice ao 0 cap] w fun e w' => e = .returned (.bool true) ∧ w' = w := by
 go_enter Tryz.func148, Tryz.ntmps148
 go_wp2
 go_loop [4, 7] (fun _ i => i = .int .i64 0) (fun _ _ => 0)
 case atStart => rfl
 case round =>
  subst hrel
  go_wp2
  go_ret
  exact ⟨rfl, rfl⟩
theorem zeros_yes {w : World} {v : Value} {zs : List Nat} (hv : Sl w v zs) (hz : ∀ z ∈ zs, z = 0) :
  Calls Tryz.prog 148 #[v] w fun e w' => e = .returned (.bool true) ∧ w' = w := by
 by_cases hp : 0 < zs.length
 ·obtain ⟨b, o, cap, rfl, h1, h2, h3, h4⟩ := hv.pos hp
  exact zeros_pos zs b o cap w h1 h2 hz h4
 ·obtain rfl : zs = [] := List.eq_nil_of_length_eq_zero (by omega)
  obtain ⟨ao, cap, rfl, _⟩ := hv
  exact zeros_none ao cap w
theorem zeros_no {w : World} {v : Value} {zs : List Nat} (hv : Sl w v zs) (hz : ¬ ∀ z ∈ zs, z = 0) :
  Calls Tryz.prog 148 #[v] w fun e w' => e = .returned (.bool false) ∧ w' = w := by
 have hp : 0 < zs.length := by
  rcases Nat.eq_zero_or_pos zs.length with h | h
  ·rw [List.eq_nil_of_length_eq_zero h] at hz
   exact absurd (fun z hz => by cases hz) hz
  ·exact h
 obtain ⟨b, o, cap, rfl, h1, h2, h3, hc⟩ := hv.pos hp
 unfold maxLen at h2
 have HC : Hid (∀ i, i < zs.length → w.cell? ⟨b, o + i, none⟩ = some (.int .u8 (zs.getD i 0 : Nat))) := hc
 have HZ : Hid (¬ ∀ z ∈ zs, z = 0) := hz
 clear hc hz h3
 go_enter Tryz.func148, Tryz.ntmps148
 go_wp2
 go_loop [4, 7] (fun _ i => ∃ k : Nat, k ≤ zs.length ∧ i = .int .i64 (k : Int) ∧ Hid (∀ z ∈ zs.take k, z = 0)) (fun _ i => zs.length - (intOf i).toNat)
 case atStart => exact ⟨0, by omega, rfl, fun z hz => by simp at hz⟩
 case round =>
  obtain ⟨k, hk, rfl, HK⟩ := hrel
  by_cases hlt : k < zs.length
  ·have q := HC.out k hlt
   have HE : Hid (∀ z ∈ zs.take (k + 1), z ∈ zs.take k ∨ z = zs.getD k 0) := by
    intro z hz
    rw [List.take_succ_eq_append_getElem hlt] at hz
    rcases List.mem_append.1 hz with h | h
    ·exact .inl h
    ·right
     rw [List.getD_eq_getElem?_getD, List.getElem?_eq_getElem hlt]
     simpa using h
   generalize zs.getD k 0 = y at *
   by_cases h0 : y = 0
   ·subst h0
    go_wp2
    go_round
    case rel => exact ⟨k + 1, by omega, by go_num, fun z hz => (HE.out z hz).elim (HK.out z) id⟩
    case measure => simp [intOf]; omega
   ·have hb : (((y : Nat) : Int) != 0) = true := by simpa using h0
    go_wp2
    go_ret
    exact ⟨rfl, rfl⟩
  ·exfalso
   refine HZ.out ?_
   have h := HK.out
   rw [List.take_of_length_le (by omega)] at h
   exact h
end Go.Proofs.YtnifefmfhjfbnaaGreatDoor
/- Reader.Pad, Reader.Bytes. -/
namespace Go.Proofs.YtnifefmfhjfbnaaGreatDoor
open Go.RowKit
theorem gapN_le (n al : Nat) (h1 : 1 ≤ al) (h2 : al ≤ 4096) : gapN n al ≤ 4096 := Nat.le_trans (Nat.le_of_lt (Nat.mod_lt _ h1)) h2
set_option maxRecDepth 100000 in
set_option maxHeartbeats 2000000 in
theorem rpad_yes {w : World} {p g : Nat} {zs : List Nat} {pos al : Nat} (h : Rd w p g zs pos 0) (h1 : 1 ≤ al) (h2 : al ≤ 4096) (hl : pos + gapN pos al ≤ zs.length) (hz : ∀ z ∈ (zs.drop pos).take (gapN pos al), z = 0) :
  Calls Tryz.prog 139 #[.pointer (some ⟨p, 0, none⟩), .int .i64 (al : Int)] w fun e w' => e = .returned (.tuple #[]) ∧ Rd w' p g zs (pos + gapN pos al) 0 ∧ Keeps (fun k => k = p) w w' := by
 have c1 := h.cell1
 have c2 := h.cell2
 have HR : Hid (Rd w p g zs pos 0) := h
 have h6 := h.2.2.2.2.2
 have HZ : Hid (∀ z ∈ (zs.drop pos).take (gapN pos al), z = 0) := hz
 have hgl := gapN_le pos al h1 h2
 have HG : Hid (Calls Tryz.prog 147 #[.int .i64 (pos : Int), .int .i64 (al : Int)] w fun e w' => e = .returned (.int .i64 (gapN pos al : Nat)) ∧ w' = w) := gap_any pos al w h1 h2 (by omega)
 clear h hz
 generalize gapN pos al = n at *
 go_enter Tryz.func139, Tryz.ntmps139
 go_wp2_with (go_at_call 146; refine (isAlign_yes (al : Int) _ (by omega) (by omega)).mono ?_; rintro e w' ⟨rfl, hw⟩; have hw := hw.symm; subst hw)
 refine HG.out.mono ?_
 rintro e w' ⟨rfl, hw⟩
 rw [hw]
 clear hw w'
 go_wp2_with fail
 refine (rleft_any HR.out).mono ?_
 rintro e w1 ⟨rfl, hs⟩
 have HS1 : Hid (Stay w w1) := hs
 have HR1 : Hid (Rd w1 p g zs pos 0) := Stay.rd hs HR.out
 clear hs c1 c2 HG
 go_wp2_with fail
 refine (rest_any HR1.out).mono ?_
 rintro e w2 ⟨ao, c, rfl, hs, hc, ha, hst⟩
 have HS2 : Hid (Stay w w2) := HS1.out.trans hst
 have HR2 : Hid (Rd w2 p g zs pos 0) := Stay.rd hst HR1.out
 have HSl : Hid (Sl w2 (.slice ao n c) ((zs.drop pos).take n)) := hs.head n (by rw [List.length_drop]; omega)
 obtain rfl := hc
 clear hs ha hst HR1 HS1
 go_wp2_with fail
 refine (zeros_yes HSl.out HZ.out).mono ?_
 rintro e w' ⟨rfl, hw⟩
 rw [hw]
 clear hw w'
 have c1 := HR2.out.cell1
 have t1 := HR2.out.thawed 1
 go_wp2
 go_end0
 refine ⟨rfl, ?_, (HS2.out.keeps).trans (Keeps.setCell w2 p 1 _) (fun i _ e => e)⟩
 have := HR2.out.moved (pos + n) hl
 rw [Int.natCast_add] at this
 exact this
set_option maxHeartbeats 400000 in
theorem rpad_not {w : World} {p g : Nat} {zs : List Nat} {pos : Nat} {al why : Int} (h : Rd w p g zs pos why) (hw : why ≠ 0) :
  Calls Tryz.prog 139 #[.pointer (some ⟨p, 0, none⟩), .int .i64 al] w fun e w' => e = .returned (.tuple #[]) ∧ w' = w := by
 have c2 := h.cell2
 have hb : (why != 0) = true := by simpa using hw
 clear h
 go_enter Tryz.func139, Tryz.ntmps139
 go_wp2
 refine bodyPost_ret (results_none rfl _ _ _) rfl ?_
 exact ⟨rfl, rfl⟩
set_option maxRecDepth 100000 in
set_option maxHeartbeats 2000000 in
theorem rpad_short {w : World} {p g : Nat} {zs : List Nat} {pos al : Nat} (h : Rd w p g zs pos 0) (h1 : 1 ≤ al) (h2 : al ≤ 4096) (hl : zs.length < pos + gapN pos al) :
  Calls Tryz.prog 139 #[.pointer (some ⟨p, 0, none⟩), .int .i64 (al : Int)] w fun e w' => e = .returned (.tuple #[]) ∧ Rd w' p g zs pos 10 ∧ Keeps (fun k => k = p) w w' := by
 have c1 := h.cell1
 have c2 := h.cell2
 have HR : Hid (Rd w p g zs pos 0) := h
 have h6 := h.2.2.2.2.2
 have h4 := h.2.2.2.1
 have hgl := gapN_le pos al h1 h2
 have HG : Hid (Calls Tryz.prog 147 #[.int .i64 (pos : Int), .int .i64 (al : Int)] w fun e w' => e = .returned (.int .i64 (gapN pos al : Nat)) ∧ w' = w) := gap_any pos al w h1 h2 (by omega)
 clear h
 generalize gapN pos al = n at *
 go_enter Tryz.func139, Tryz.ntmps139
 go_wp2_with (go_at_call 146; refine (isAlign_yes (al : Int) _ (by omega) (by omega)).mono ?_; rintro e w' ⟨rfl, hw⟩; have hw := hw.symm; subst hw)
 refine HG.out.mono ?_
 rintro e w' ⟨rfl, hw⟩
 rw [hw]
 clear hw w'
 go_wp2_with fail
 refine (rleft_any HR.out).mono ?_
 rintro e w1 ⟨rfl, hs⟩
 have HS1 : Hid (Stay w w1) := hs
 have HR1 : Hid (Rd w1 p g zs pos 0) := Stay.rd hs HR.out
 clear hs c1 c2 HG
 have c2 := HR1.out.cell2
 have t2 := HR1.out.thawed 2
 go_wp2
 go_end0
 exact ⟨rfl, HR1.out.refuse 10, (HS1.out.keeps).trans (Keeps.setCell w1 p 2 _) (fun i _ e => e)⟩
set_option maxRecDepth 100000 in
set_option maxHeartbeats 2000000 in
theorem rpad_form {w : World} {p g : Nat} {zs : List Nat} {pos al : Nat} (h : Rd w p g zs pos 0) (h1 : 1 ≤ al) (h2 : al ≤ 4096) (hl : pos + gapN pos al ≤ zs.length) (hz : ¬ ∀ z ∈ (zs.drop pos).take (gapN pos al), z = 0) :
  Calls Tryz.prog 139 #[.pointer (some ⟨p, 0, none⟩), .int .i64 (al : Int)] w fun e w' => e = .returned (.tuple #[]) ∧ Rd w' p g zs pos 5 ∧ Keeps (fun k => k = p) w w' := by
 have c1 := h.cell1
 have c2 := h.cell2
 have HR : Hid (Rd w p g zs pos 0) := h
 have h6 := h.2.2.2.2.2
 have HZ : Hid (¬ ∀ z ∈ (zs.drop pos).take (gapN pos al), z = 0) := hz
 have hgl := gapN_le pos al h1 h2
 have HG : Hid (Calls Tryz.prog 147 #[.int .i64 (pos : Int), .int .i64 (al : Int)] w fun e w' => e = .returned (.int .i64 (gapN pos al : Nat)) ∧ w' = w) := gap_any pos al w h1 h2 (by omega)
 clear h hz
 generalize gapN pos al = n at *
 go_enter Tryz.func139, Tryz.ntmps139
 go_wp2_with (go_at_call 146; refine (isAlign_yes (al : Int) _ (by omega) (by omega)).mono ?_; rintro e w' ⟨rfl, hw⟩; have hw := hw.symm; subst hw)
 refine HG.out.mono ?_
 rintro e w' ⟨rfl, hw⟩
 rw [hw]
 clear hw w'
 go_wp2_with fail
 refine (rleft_any HR.out).mono ?_
 rintro e w1 ⟨rfl, hs⟩
 have HS1 : Hid (Stay w w1) := hs
 have HR1 : Hid (Rd w1 p g zs pos 0) := Stay.rd hs HR.out
 clear hs c1 c2 HG
 go_wp2_with fail
 refine (rest_any HR1.out).mono ?_
 rintro e w2 ⟨ao, c, rfl, hs, hc, ha, hst⟩
 have HS2 : Hid (Stay w w2) := HS1.out.trans hst
 have HR2 : Hid (Rd w2 p g zs pos 0) := Stay.rd hst HR1.out
 have HSl : Hid (Sl w2 (.slice ao n c) ((zs.drop pos).take n)) := hs.head n (by rw [List.length_drop]; omega)
 obtain rfl := hc
 clear hs ha hst HR1 HS1
 go_wp2_with fail
 refine (zeros_no HSl.out HZ.out).mono ?_
 rintro e w' ⟨rfl, hw⟩
 rw [hw]
 clear hw w'
 have c2 := HR2.out.cell2
 have t2 := HR2.out.thawed 2
 go_wp2
 go_end0
 exact ⟨rfl, HR2.out.refuse 5, (HS2.out.keeps).trans (Keeps.setCell w2 p 2 _) (fun i _ e => e)⟩
end Go.Proofs.YtnifefmfhjfbnaaGreatDoor
