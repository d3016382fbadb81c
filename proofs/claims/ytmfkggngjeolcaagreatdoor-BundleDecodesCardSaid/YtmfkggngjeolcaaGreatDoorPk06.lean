import Derived.Test.YtmfkggngjeolcaaGreatDoorPk05
set_option maxHeartbeats 2000000
set_option maxRecDepth 100000
namespace Go.Proofs.YtmfkggngjeolcaaGreatDoor
open Go.RowKit
def Stay (w w' : World) : Prop := w'.heap = w.heap ∧ Below w.heap.size w w'
theorem Stay.refl (w : World) : Stay w w := ⟨rfl, Below.refl _ _⟩
theorem Stay.keeps {S : Nat → Prop} {w w' : World} (h : Stay w w') : Keeps S w w' := Keeps.of_below h.2
theorem Stay.rd {w w' : World} {p g : Nat} {zs : List Nat} {pos : Nat} {why : Int} (h : Stay w w') (hr : Rd w p g zs pos why) : Rd w' p g zs pos why := hr.keeps (h.keeps (S := fun _ => False)) (fun h => h) (fun h => h)
theorem Stay.trans {a b c : World} (h : Stay a b) (k : Stay b c) : Stay a c := ⟨k.1.trans h.1, h.2.trans (k.2.mono (by rw [h.1]; exact Nat.le_refl _))⟩
theorem Sl.head {w : World} {ao : Option Addr} {m cap : Nat} {zs : List Nat} (h : Sl w (.slice ao m cap) zs) (n : Nat) (hn : n ≤ zs.length) : Sl w (.slice ao n cap) (zs.take n) := by
 obtain ⟨a, c, e, h1, h2, h3, h4, h5⟩ := h
 cases e
 refine ⟨ao, cap, by rw [List.length_take, Nat.min_eq_left hn], by rw [List.length_take]; omega, h2, fun z hz => h3 z (List.mem_of_mem_take hz), h4, fun i hi => ?_⟩;rw [List.length_take] at hi;obtain ⟨b, o, e, hc⟩ := h5 i (by omega);refine ⟨b, o, e, hc.trans ?_⟩;rw [List.getD_eq_getElem?_getD, List.getD_eq_getElem?_getD, List.getElem?_take, if_pos (by omega)]
theorem end_some {w : World} {p g : Nat} {zs : List Nat} {pos : Nat} (h : Rd w p g zs pos 0) (hl : pos < zs.length) :
  Calls Tryz.prog 124 #[.pointer (some ⟨p, 0, none⟩)] w fun e w' => e = .returned (.int .i64 12) ∧ Stay w w' := by
 have c2 := h.cell2;have HR : Hid (Rd w p g zs pos 0) := h;clear h;go_enter Tryz.func124, Tryz.ntmps124
 go_wp2_with fail
 refine (rleft_any HR.out).mono ?_;rintro e w1 ⟨rfl, hs⟩;have HS : Hid (Stay w w1) := hs;clear hs;go_wp2
 go_ret
 exact ⟨rfl, HS.out⟩
theorem end_none {w : World} {p g : Nat} {zs : List Nat} {pos : Nat} (h : Rd w p g zs pos 0) (hl : pos = zs.length) :
  Calls Tryz.prog 124 #[.pointer (some ⟨p, 0, none⟩)] w fun e w' => e = .returned (.int .i64 0) ∧ Stay w w' := by
 have c2 := h.cell2;have HR : Hid (Rd w p g zs pos 0) := h;have HL : Hid (Calls Tryz.prog 161 #[.pointer (some ⟨p, 0, none⟩)] w fun e w' => e = .returned (.int .i64 0) ∧ Stay w w') := by
  have := rleft_any h;rw [hl, Nat.sub_self] at this;exact this
 clear h hl;go_enter Tryz.func124, Tryz.ntmps124
 go_wp2_with fail
 refine HL.out.mono ?_;rintro e w1 ⟨rfl, hs⟩;have HS : Hid (Stay w w1) := hs;have c3 := (hs.rd HR.out).cell2;clear hs HL c2;go_wp2
 go_ret
 exact ⟨rfl, HS.out⟩
theorem zeros_pos (zs : List Nat) (b o cap : Nat) (w : World) (h1 : zs.length ≤ cap) (h2 : cap ≤ maxLen) (hz : ∀ z ∈ zs, z = 0)
  (hc : ∀ i, i < zs.length → w.cell? ⟨b, o + i, none⟩ = some (.int .u8 (zs.getD i 0 : Nat))) :
  Calls Tryz.prog 195 #[.slice (some ⟨b, o, none⟩) zs.length cap] w fun e w' => e = .returned (.bool true) ∧ w' = w := by
 unfold maxLen at h2;have HC : Hid (∀ i, i < zs.length → w.cell? ⟨b, o + i, none⟩ = some (.int .u8 (zs.getD i 0 : Nat))) := hc;have HZ : Hid (∀ z ∈ zs, z = 0) := hz;clear hc hz;go_enter Tryz.func195, Tryz.ntmps195
 go_wp2
 go_loop [4, 7] (fun _ i => ∃ k : Nat, k ≤ zs.length ∧ i = .int .i64 (k : Int)) (fun _ i => zs.length - (intOf i).toNat)
 case atStart => exact ⟨0, by omega, rfl⟩
 case round =>
  obtain ⟨k, hk, rfl⟩ := hrel
  by_cases hlt : k < zs.length
  ·have q := HC.out k hlt;have e : zs.getD k 0 = 0 := by rw [List.getD_eq_getElem?_getD, List.getElem?_eq_getElem hlt]; exact HZ.out _ (List.getElem_mem hlt)
   rw [e] at q;clear e;go_wp2
   go_round
   case rel => exact ⟨k + 1, by omega, by go_num⟩
   case measure => simp [intOf]; omega
  ·go_wp2
   go_ret
   exact ⟨rfl, rfl⟩
theorem zeros_none (ao : Option Addr) (cap : Nat) (w : World) :
  Calls Tryz.prog 195 #[.slice ao 0 cap] w fun e w' => e = .returned (.bool true) ∧ w' = w := by
 go_enter Tryz.func195, Tryz.ntmps195
 go_wp2
 go_loop [4, 7] (fun _ i => i = .int .i64 0) (fun _ _ => 0)
 case atStart => rfl
 case round =>
  subst hrel;go_wp2
  go_ret
  exact ⟨rfl, rfl⟩
theorem zeros_yes {w : World} {v : Value} {zs : List Nat} (hv : Sl w v zs) (hz : ∀ z ∈ zs, z = 0) :
  Calls Tryz.prog 195 #[v] w fun e w' => e = .returned (.bool true) ∧ w' = w := by
 by_cases hp : 0 < zs.length
 ·obtain ⟨b, o, cap, rfl, h1, h2, h3, h4⟩ := hv.pos hp;exact zeros_pos zs b o cap w h1 h2 hz h4
 ·obtain rfl : zs = [] := List.eq_nil_of_length_eq_zero (by omega);obtain ⟨ao, cap, rfl, _⟩ := hv;exact zeros_none ao cap w
theorem zeros_no {w : World} {v : Value} {zs : List Nat} (hv : Sl w v zs) (hz : ¬ ∀ z ∈ zs, z = 0) :
  Calls Tryz.prog 195 #[v] w fun e w' => e = .returned (.bool false) ∧ w' = w := by
 have hp : 0 < zs.length := by
  rcases Nat.eq_zero_or_pos zs.length with h | h
  ·rw [List.eq_nil_of_length_eq_zero h] at hz;exact absurd (fun z hz => by cases hz) hz
  ·exact h
 obtain ⟨b, o, cap, rfl, h1, h2, h3, hc⟩ := hv.pos hp;unfold maxLen at h2;have HC : Hid (∀ i, i < zs.length → w.cell? ⟨b, o + i, none⟩ = some (.int .u8 (zs.getD i 0 : Nat))) := hc;have HZ : Hid (¬ ∀ z ∈ zs, z = 0) := hz;clear hc hz h3;go_enter Tryz.func195, Tryz.ntmps195
 go_wp2
 go_loop [4, 7] (fun _ i => ∃ k : Nat, k ≤ zs.length ∧ i = .int .i64 (k : Int) ∧ Hid (∀ z ∈ zs.take k, z = 0)) (fun _ i => zs.length - (intOf i).toNat)
 case atStart => exact ⟨0, by omega, rfl, fun z hz => by simp at hz⟩
 case round =>
  obtain ⟨k, hk, rfl, HK⟩ := hrel
  by_cases hlt : k < zs.length
  ·have q := HC.out k hlt;have HE : Hid (∀ z ∈ zs.take (k + 1), z ∈ zs.take k ∨ z = zs.getD k 0) := by
    intro z hz;rw [List.take_succ_eq_append_getElem hlt] at hz;rcases List.mem_append.1 hz with h | h
    ·exact .inl h
    ·right
     rw [List.getD_eq_getElem?_getD, List.getElem?_eq_getElem hlt]
     simpa using h
   generalize zs.getD k 0 = y at *
   by_cases h0 : y = 0
   ·subst h0;go_wp2
    go_round
    case rel => exact ⟨k + 1, by omega, by go_num, fun z hz => (HE.out z hz).elim (HK.out z) id⟩
    case measure => simp [intOf]; omega
   ·have hb : (((y : Nat) : Int) != 0) = true := by simpa using h0
    go_wp2
    go_ret
    exact ⟨rfl, rfl⟩
  ·exfalso
   refine HZ.out ?_;have h := HK.out;rw [List.take_of_length_le (by omega)] at h;exact h
end Go.Proofs.YtmfkggngjeolcaaGreatDoor
namespace Go.Proofs.YtmfkggngjeolcaaGreatDoor
open Go.RowKit
theorem gapN_le (n al : Nat) (h1 : 1 ≤ al) (h2 : al ≤ 4096) : gapN n al ≤ 4096 := Nat.le_trans (Nat.le_of_lt (Nat.mod_lt _ h1)) h2
theorem rpad_yes {w : World} {p g : Nat} {zs : List Nat} {pos al : Nat} (h : Rd w p g zs pos 0) (h1 : 1 ≤ al) (h2 : al ≤ 4096) (hl : pos + gapN pos al ≤ zs.length) (hz : ∀ z ∈ (zs.drop pos).take (gapN pos al), z = 0) :
  Calls Tryz.prog 190 #[.pointer (some ⟨p, 0, none⟩), .int .i64 (al : Int)] w fun e w' => e = .returned (.tuple #[]) ∧ Rd w' p g zs (pos + gapN pos al) 0 ∧ Keeps (fun k => k = p) w w' := by
 have c1 := h.cell1;have c2 := h.cell2;have HR : Hid (Rd w p g zs pos 0) := h;have h6 := h.2.2.2.2.2;have HZ : Hid (∀ z ∈ (zs.drop pos).take (gapN pos al), z = 0) := hz;have hgl := gapN_le pos al h1 h2;have HG : Hid (Calls Tryz.prog 194 #[.int .i64 (pos : Int), .int .i64 (al : Int)] w fun e w' => e = .returned (.int .i64 (gapN pos al : Nat)) ∧ w' = w) := gap_any pos al w h1 h2 (by omega);clear h hz;generalize gapN pos al = n at *;go_enter Tryz.func190, Tryz.ntmps190
 go_wp2_with (go_at_call 193; refine (isAlign_yes (al : Int) _ (by omega) (by omega)).mono ?_; rintro e w' ⟨rfl, hw⟩; have hw := hw.symm; subst hw)
 refine HG.out.mono ?_;rintro e w' ⟨rfl, hw⟩;rw [hw];clear hw w';go_wp2_with fail
 refine (rleft_any HR.out).mono ?_;rintro e w1 ⟨rfl, hs⟩;have HS1 : Hid (Stay w w1) := hs;have HR1 : Hid (Rd w1 p g zs pos 0) := Stay.rd hs HR.out;clear hs c1 c2 HG;go_wp2_with fail
 refine (rest_any HR1.out).mono ?_;rintro e w2 ⟨ao, c, rfl, hs, hc, ha, hst⟩;have HS2 : Hid (Stay w w2) := HS1.out.trans hst;have HR2 : Hid (Rd w2 p g zs pos 0) := Stay.rd hst HR1.out;have HSl : Hid (Sl w2 (.slice ao n c) ((zs.drop pos).take n)) := hs.head n (by rw [List.length_drop]; omega);obtain rfl := hc;clear hs ha hst HR1 HS1;go_wp2_with fail
 refine (zeros_yes HSl.out HZ.out).mono ?_;rintro e w' ⟨rfl, hw⟩;rw [hw];clear hw w';have c1 := HR2.out.cell1;have t1 := HR2.out.thawed 1;go_wp2
 go_end0
 refine ⟨rfl, ?_, (HS2.out.keeps).trans (Keeps.setCell w2 p 1 _) (fun i _ e => e)⟩;have := HR2.out.moved (pos + n) hl;rw [Int.natCast_add] at this;exact this
theorem rpad_not {w : World} {p g : Nat} {zs : List Nat} {pos : Nat} {al why : Int} (h : Rd w p g zs pos why) (hw : why ≠ 0) :
  Calls Tryz.prog 190 #[.pointer (some ⟨p, 0, none⟩), .int .i64 al] w fun e w' => e = .returned (.tuple #[]) ∧ w' = w := by
 have c2 := h.cell2;have hb : (why != 0) = true := by simpa using hw
 clear h;go_enter Tryz.func190, Tryz.ntmps190
 go_wp2
 refine bodyPost_ret (results_none rfl _ _ _) rfl ?_;exact ⟨rfl, rfl⟩
theorem rpad_short {w : World} {p g : Nat} {zs : List Nat} {pos al : Nat} (h : Rd w p g zs pos 0) (h1 : 1 ≤ al) (h2 : al ≤ 4096) (hl : zs.length < pos + gapN pos al) :
  Calls Tryz.prog 190 #[.pointer (some ⟨p, 0, none⟩), .int .i64 (al : Int)] w fun e w' => e = .returned (.tuple #[]) ∧ Rd w' p g zs pos 10 ∧ Keeps (fun k => k = p) w w' := by
 have c1 := h.cell1;have c2 := h.cell2;have HR : Hid (Rd w p g zs pos 0) := h;have h6 := h.2.2.2.2.2;have h4 := h.2.2.2.1;have hgl := gapN_le pos al h1 h2;have HG : Hid (Calls Tryz.prog 194 #[.int .i64 (pos : Int), .int .i64 (al : Int)] w fun e w' => e = .returned (.int .i64 (gapN pos al : Nat)) ∧ w' = w) := gap_any pos al w h1 h2 (by omega);clear h;generalize gapN pos al = n at *;go_enter Tryz.func190, Tryz.ntmps190
 go_wp2_with (go_at_call 193; refine (isAlign_yes (al : Int) _ (by omega) (by omega)).mono ?_; rintro e w' ⟨rfl, hw⟩; have hw := hw.symm; subst hw)
 refine HG.out.mono ?_;rintro e w' ⟨rfl, hw⟩;rw [hw];clear hw w';go_wp2_with fail
 refine (rleft_any HR.out).mono ?_;rintro e w1 ⟨rfl, hs⟩;have HS1 : Hid (Stay w w1) := hs;have HR1 : Hid (Rd w1 p g zs pos 0) := Stay.rd hs HR.out;clear hs c1 c2 HG;have c2 := HR1.out.cell2;have t2 := HR1.out.thawed 2;go_wp2
 go_end0
 exact ⟨rfl, HR1.out.refuse 10, (HS1.out.keeps).trans (Keeps.setCell w1 p 2 _) (fun i _ e => e)⟩
theorem rpad_form {w : World} {p g : Nat} {zs : List Nat} {pos al : Nat} (h : Rd w p g zs pos 0) (h1 : 1 ≤ al) (h2 : al ≤ 4096) (hl : pos + gapN pos al ≤ zs.length) (hz : ¬ ∀ z ∈ (zs.drop pos).take (gapN pos al), z = 0) :
  Calls Tryz.prog 190 #[.pointer (some ⟨p, 0, none⟩), .int .i64 (al : Int)] w fun e w' => e = .returned (.tuple #[]) ∧ Rd w' p g zs pos 5 ∧ Keeps (fun k => k = p) w w' := by
 have c1 := h.cell1;have c2 := h.cell2;have HR : Hid (Rd w p g zs pos 0) := h;have h6 := h.2.2.2.2.2;have HZ : Hid (¬ ∀ z ∈ (zs.drop pos).take (gapN pos al), z = 0) := hz;have hgl := gapN_le pos al h1 h2;have HG : Hid (Calls Tryz.prog 194 #[.int .i64 (pos : Int), .int .i64 (al : Int)] w fun e w' => e = .returned (.int .i64 (gapN pos al : Nat)) ∧ w' = w) := gap_any pos al w h1 h2 (by omega);clear h hz;generalize gapN pos al = n at *;go_enter Tryz.func190, Tryz.ntmps190
 go_wp2_with (go_at_call 193; refine (isAlign_yes (al : Int) _ (by omega) (by omega)).mono ?_; rintro e w' ⟨rfl, hw⟩; have hw := hw.symm; subst hw)
 refine HG.out.mono ?_;rintro e w' ⟨rfl, hw⟩;rw [hw];clear hw w';go_wp2_with fail
 refine (rleft_any HR.out).mono ?_;rintro e w1 ⟨rfl, hs⟩;have HS1 : Hid (Stay w w1) := hs;have HR1 : Hid (Rd w1 p g zs pos 0) := Stay.rd hs HR.out;clear hs c1 c2 HG;go_wp2_with fail
 refine (rest_any HR1.out).mono ?_;rintro e w2 ⟨ao, c, rfl, hs, hc, ha, hst⟩;have HS2 : Hid (Stay w w2) := HS1.out.trans hst;have HR2 : Hid (Rd w2 p g zs pos 0) := Stay.rd hst HR1.out;have HSl : Hid (Sl w2 (.slice ao n c) ((zs.drop pos).take n)) := hs.head n (by rw [List.length_drop]; omega);obtain rfl := hc;clear hs ha hst HR1 HS1;go_wp2_with fail
 refine (zeros_no HSl.out HZ.out).mono ?_;rintro e w' ⟨rfl, hw⟩;rw [hw];clear hw w';have c2 := HR2.out.cell2;have t2 := HR2.out.thawed 2;go_wp2
 go_end0
 exact ⟨rfl, HR2.out.refuse 5, (HS2.out.keeps).trans (Keeps.setCell w2 p 2 _) (fun i _ e => e)⟩
end Go.Proofs.YtmfkggngjeolcaaGreatDoor
namespace Go.Proofs.YtmfkggngjeolcaaGreatDoor
open Go.RowKit
theorem rbytes_yes {w : World} {p g : Nat} {zs : List Nat} {pos n : Nat} (h : Rd w p g zs pos 0) (hl : pos + n ≤ zs.length) :
  Calls Tryz.prog 134 #[.pointer (some ⟨p, 0, none⟩), .int .i64 (n : Int)] w fun e w' => ∃ k, e = .returned (.slice (some ⟨k, 0, none⟩) n n) ∧ w.heap.size ≤ k ∧ Row w' k ((zs.drop pos).take n) ∧ k ≠ p ∧ Rd w' p g zs (pos + n) 0 ∧ Keeps (fun k => k = p) w w' := by
 have c2 := h.cell2;have HR : Hid (Rd w p g zs pos 0) := h;have h6 := h.2.2.2.2.2;clear h;go_enter Tryz.func134, Tryz.ntmps134
 go_wp2_with fail
 refine (rleft_any HR.out).mono ?_;rintro e w1 ⟨rfl, hs⟩;have HS1 : Hid (Stay w w1) := hs;have HR1 : Hid (Rd w1 p g zs pos 0) := Stay.rd hs HR.out;clear hs c2;go_wp2_with fail
 refine (rest_any HR1.out).mono ?_;rintro e w2 ⟨ao, c, rfl, hs, hc, ha, hst⟩;have HS2 : Hid (Stay w w2) := HS1.out.trans hst;have HR2 : Hid (Rd w2 p g zs pos 0) := Stay.rd hst HR1.out;have HSl : Hid (Sl w2 (.slice ao n c) ((zs.drop pos).take n)) := hs.head n (by rw [List.length_drop]; omega);have HLen : Hid (((zs.drop pos).take n).length = n) := by show _ = _; rw [List.length_take, List.length_drop]; omega
 obtain rfl := hc;clear hs ha hst HR1 HS1;have HC : Hid (Calls Tryz.prog 99 #[.slice ao n (zs.length - pos)] w2 fun e w' => e = .returned (.slice (some ⟨w2.heap.size, 0, none⟩) n n) ∧ Row w' w2.heap.size ((zs.drop pos).take n) ∧ Below w2.heap.size w2 w') := by
  have := clone_any HSl.out (by rw [HLen.out]; omega);rw [HLen.out] at this;exact this
 go_wp2_with fail
 refine HC.out.mono ?_;rintro e w3 ⟨rfl, hr, hb⟩;have HRow : Hid (Row w3 w2.heap.size ((zs.drop pos).take n)) := hr;have HR3 : Hid (Rd w3 p g zs pos 0) := HR2.out.keeps (Keeps.of_below (S := fun _ => False) hb) (fun h => h) (fun h => h);have HK3 : Hid (Keeps (fun k => k = p) w w3) := (HS2.out.keeps).trans (Keeps.of_below (S := fun _ => False) hb) (fun _ _ h => h.elim);have HLt : Hid (w.heap.size ≤ w2.heap.size) := HS2.out.2.size;have HNe : Hid (w2.heap.size ≠ p) := Nat.ne_of_gt HR2.out.lt;clear hr hb HC;have c1 := HR3.out.cell1;have t1 := HR3.out.thawed 1;go_wp2
 go_ret
 refine ⟨_, rfl, HLt.out, HRow.out.other p 1 _ HNe.out, HNe.out, ?_, HK3.out.trans (Keeps.setCell w3 p 1 _) (fun i _ e => e)⟩;have := HR3.out.moved (pos + n) hl;rw [Int.natCast_add] at this;exact this
end Go.Proofs.YtmfkggngjeolcaaGreatDoor
