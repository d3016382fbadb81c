import Derived.Test.YtddgoncbdlhhhaaGreatR19
import Derived.Test.YtddgoncbdlhhhaaGreatR20
import Derived.Deep.RegionLaw
import Derived.Test.YtddgoncbdlhhhaaGreatR36
import Derived.Test.YtddgoncbdlhhhaaGreatR37
import Derived.RegionTactic
/- Roomy and Intact of ranges. Own work. -/
namespace Go.Proofs.YtddgoncbdlhhhaaGreat
open Go.RowKit Go.Maps Go.Proofs.YtddgoncbdlhhhaaGreat.Sp
/-- a row with 80 more places, of which k bear the mark -/
def fillR (mk : Sp) (p : List Sp) (k : Nat) : List Sp := p ++ (List.replicate k mk ++ List.replicate (80 - k) (0, 0))
def roomR (mk : Sp) (p : List Sp) : List Sp := p ++ List.replicate 80 mk
theorem fillR_len (mk : Sp) (p : List Sp) (k : Nat) (hk : k ≤ 80) : (fillR mk p k).length = p.length + 80 := by simp [fillR]; omega
theorem roomR_len (mk : Sp) (p : List Sp) : (roomR mk p).length = p.length + 80 := by rw [roomR, List.length_append, List.length_replicate]
theorem fillR_set (mk : Sp) (p : List Sp) (k : Nat) (hk : k < 80) : (fillR mk p k).set (p.length + k) mk = fillR mk p (k + 1) := by
  unfold fillR
  rw [List.set_append_right _ _ (by omega), Nat.add_sub_cancel_left, List.set_append_right _ _ (by simp), List.length_replicate, Nat.sub_self, show 80 - k = (80 - (k + 1)) + 1 by omega, List.replicate_succ, List.set_cons_zero, List.replicate_succ', List.append_assoc]
  rfl
theorem fillR_end (mk : Sp) (p : List Sp) : fillR mk p 80 = roomR mk p := by simp only [fillR, roomR, Nat.sub_self, List.replicate_zero, List.append_nil]
theorem madeR {w : World} {base g n : Nat} (h : w.ownsRow base 55 2 (.slice (some ⟨g, 0, none⟩) n n) n (madeCells #[Value.int .u64 0, .int .u64 0] (n * 2)).toList) : RowR w g (List.replicate n (0, 0)) := by
  rcases h.2 with ⟨hc, _⟩ | ⟨g', cap, cur, hv, _, hg, _, _, hs, ht⟩
  · cases hc
  · cases hv
    unfold RowR
    rw [hg]
    have e : cur.toList = U64.encs (List.replicate n (0, 0)) := by
      rw [List.take_of_length_le (by simp [hs])] at ht
      rw [ht]
      apply List.ext_getElem?
      intro j
      by_cases hj : j < n * 2
      · rw [Array.getElem?_toList]
        have hj' : j < (madeCells #[Value.int .u64 0, .int .u64 0] (n * 2)).size := by rw [size_madeCells]; omega
        rw [Array.getElem?_eq_getElem hj']
        have : (madeCells #[Value.int .u64 0, .int .u64 0] (n * 2))[j] = .int .u64 0 := by
          simp only [madeCells, Array.getElem_map, Array.getElem_range]
          have h2 : (#[Value.int .u64 0, .int .u64 0] : Array Value).size = 2 := rfl
          rw [h2]
          rcases (by omega : j % 2 = 0 ∨ j % 2 = 1) with e | e <;> rw [e] <;> rfl
        rw [this]
        rcases (by omega : j % 2 = 0 ∨ j % 2 = 1) with e | e
        · rw [show j = j / 2 * 2 by omega, U64.encs_get0 _ (j / 2) (by rw [List.length_replicate]; omega), List.getElem_replicate]
        · rw [show j = j / 2 * 2 + 1 by omega, U64.encs_get1 _ (j / 2) (by rw [List.length_replicate]; omega), List.getElem_replicate]
      · rw [List.getElem?_eq_none (by rw [Array.length_toList, size_madeCells]; omega), List.getElem?_eq_none (by rw [U64.encs_length, List.length_replicate]; omega)]
    rw [← e]
set_option maxRecDepth 100000 in
set_option maxHeartbeats 4000000 in
theorem roomyR_any {v : Value} {p : List Sp} {w : World} {mk : Sp} (hv : U64.SV w v p) (hp : p.length ≤ 8796093022000) :
    Calls Tryz.prog 38 #[v, .agg #[.int .u64 mk.1, .int .u64 mk.2]] w fun e w' => ∃ g, w.heap.size ≤ g ∧ e = .returned (.slice (some ⟨g, 0, none⟩) (p.length + 80) (p.length + 80)) ∧ RowR w' g (roomR mk p) ∧ Below w.heap.size w w' := by
  obtain ⟨i, hi, hz0, hz1, hz2⟩ := info_parts info_rg
  have HV := Lib.hid hv
  obtain ⟨ao, cap, rfl, h1, h2, _⟩ := hv
  unfold maxLen at h2
  go_enter Tryz.func38, Tryz.ntmps38
  go_wp2_with (at_make; refine wpList_make_full _ rfl _ _ 22 rfl w.heap.size 55 i (.agg #[.int .u64 0, .int .u64 0]) 2 Tryz.underlying22 hi hz0 hz1 _ _ _ _ (p.length + 80) rfl rfl (by omega) (by omega) (by rw [hz2]; omega) (by simp only [maxLen]; omega) (by simp) ?_)
  intro w1 hown hgrow
  have hb1 : Below w.heap.size w w1 := ((Below.refl _ _).alloc (Nat.le_refl _) _).grown hgrow (by simp) (by simp)
  have hmk : w1.heap[w.heap.size]? = some (.cells #[.int .u64 mk.1, .int .u64 mk.2] 55 (0, 0)) := (hgrow.block w.heap.size (by simp) (by simp)).trans (Array.getElem?_push_size (xs := w.heap))
  have hr1 : RowR w1 (w.heap.size + 1) (List.replicate (p.length + 80) (0, 0)) := madeR hown
  have HR1 := Lib.hid hr1
  have HMk := Lib.hid hmk
  have HV1 := Lib.hid (HV.out.below hb1 (Nat.le_refl _))
  have HB1 := Lib.hid hb1
  clear hown hgrow hr1 hmk hb1 hi hz0 hz1 hz2
  go_wp2_with (refine wpList_copyR rfl (.tmp 11) (.tmp 12) rfl (m := 80) rfl rfl HR1.out HV1.out ?_)
  intro w2 HR2 HK2
  have HB2 : Hid (Below w.heap.size w w2) := HB1.out.trans (HK2.out.below HB1.out.size (fun k _ e => by omega))
  have HM2 : Hid (w2.heap[w.heap.size]? = some (.cells #[.int .u64 mk.1, .int .u64 mk.2] 55 (0, 0))) := (HK2.out.block w.heap.size (Array.getElem?_eq_some_iff.1 HMk.out).1 (by omega)).trans HMk.out
  have HF2 : Hid (RowR w2 (w.heap.size + 1) (fillR mk p 0)) := HR2.out
  clear HR2 HK2 HR1 HMk HV1 HB1
  go_wp2_with fail
  go_loopw [6] (fun iv wr => ∃ k : Nat, k ≤ 80 ∧ iv = .int .i64 ((p.length + k : Nat) : Int) ∧ Hid (RowR wr (w.heap.size + 1) (fillR mk p k)) ∧ Hid (wr.heap[w.heap.size]? = some (.cells #[.int .u64 mk.1, .int .u64 mk.2] 55 (0, 0))) ∧ Hid (Below w.heap.size w wr)) (fun iv _ => p.length + 80 - (intOf iv).toNat)
  case atStart => exact ⟨0, by omega, rfl, HF2, HM2, HB2⟩
  case round =>
    clear HF2 HM2 HB2
    obtain ⟨k, hk, rfl, HF, HM, HB⟩ := hrel
    by_cases hlt : k < 80
    · have hl := fillR_len mk p k hk
      obtain ⟨j, hj⟩ : ∃ j, p.length + k = j := ⟨_, rfl⟩
      have c0 := HF.out.cell0 j (by omega)
      have c1 := HF.out.cell1 j (by omega)
      have f0 : wr.frozen? ⟨w.heap.size + 1, j * 2, none⟩ = false := by simp [World.frozen?, show wr.heap[w.heap.size + 1]? = _ from HF.out]
      have f1 : wr.frozen? ⟨w.heap.size + 1, j * 2 + 1, none⟩ = false := by simp [World.frozen?, show wr.heap[w.heap.size + 1]? = _ from HF.out]
      have m0 : wr.cell? ⟨w.heap.size, 0, none⟩ = some (.int .u64 mk.1) := by rw [cell_of_row _ _ _ _ _ _ HM.out]; rfl
      have m1 : wr.cell? ⟨w.heap.size, 1, none⟩ = some (.int .u64 mk.2) := by rw [cell_of_row _ _ _ _ _ _ HM.out]; rfl
      have HS := Lib.hid (HF.out.set j (by omega) mk)
      have HSe : Hid ((fillR mk p k).set j mk = fillR mk p (k + 1)) := by
        show _ = _
        rw [← hj]
        exact fillR_set mk p k hlt
      have ji : (j : Int) < (p.length : Int) + 80 := by omega
      have jn : j < p.length + 80 := by omega
      have hw1 : IntKind.i64.wrap ((j : Int) + 1) = ((j + 1 : Nat) : Int) := by rw [IntKind.wrap_i64]; omega
      have HJ : Hid (p.length + k = j) := hj
      rw [hj]
      generalize (fillR mk p k)[j]'(by omega) = y at *
      clear hj hl
      go_wp2_with fail
      go_roundw
      case rel =>
        refine ⟨k + 1, by omega, by have := HJ.out; congr 1; omega, ?_, ?_, (HB.out.setCell (Nat.le_succ _) _).setCell (Nat.le_succ _) _⟩
        · have h := HS.out
          rw [HSe.out] at h
          exact h
        · exact (Below.heap_setCell _ _ _ _ (by simp)).trans ((Below.heap_setCell _ _ _ _ (by simp)).trans HM.out)
      case measure => simp [intOf]; omega
    · obtain rfl : k = 80 := by omega
      go_wp2_with fail
      go_ret
      refine ⟨w.heap.size + 1, by omega, rfl, ?_, HB.out⟩
      have h := HF.out
      rw [fillR_end] at h
      exact h
set_option maxRecDepth 100000 in
set_option maxHeartbeats 4000000 in
theorem intactR_any {v : Value} {p : List Sp} {w : World} {g : Nat} {x0 x1 : Int} (hr : RowR w g (roomR (x0, x1) p)) (hv : U64.SV w v p) (hp : p.length ≤ 8796093022000) :
    Calls Tryz.prog 15 #[.slice (some ⟨g, 0, none⟩) (p.length + 80) (p.length + 80), v, .agg #[.int .u64 x0, .int .u64 x1]] w fun e w' => e = .returned (.bool true) ∧ Below w.heap.size w w' := by
  have HV := Lib.hid hv
  have hne := neq_range
  have hgd := guard_ranges
  have HRw := Lib.hid hr
  have hb3 := hv
  obtain ⟨ao, cap, rfl, h1, h2, _⟩ := hb3
  unfold maxLen at h2
  have HP := Lib.hid (fun W (h : RowR W g (roomR (x0, x1) p)) => by
    have := h.sv (n := p.length) (c := p.length + 80) (by rw [roomR_len]; omega) (by omega) (by unfold maxLen; omega)
    rw [roomR, List.take_left] at this
    exact this)
  have HB0 : Hid (Below w.heap.size w (w.alloc (.cells #[.int .u64 x0, .int .u64 x1] 55))) := (Below.refl _ _).alloc (Nat.le_refl _) _
  have HM0 : Hid ((w.alloc (.cells #[.int .u64 x0, .int .u64 x1] 55)).heap[w.heap.size]? = some (.cells #[.int .u64 x0, .int .u64 x1] 55 (0, 0))) := Array.getElem?_push_size (xs := w.heap)
  have HS := Lib.hid (rsame_yes (HP.out _ (HRw.out.below HB0.out)) (HV.out.below HB0.out (Nat.le_refl _)))
  clear hr hv
  go_enter Tryz.func15, Tryz.ntmps15
  go_wp2_with fail
  refine HS.out.mono ?_
  rintro e w1 ⟨rfl, hb1⟩
  have HB1 : Hid (Below w.heap.size w w1) := HB0.out.trans (hb1.mono HB0.out.size)
  have HM1 : Hid (w1.heap[w.heap.size]? = some (.cells #[.int .u64 x0, .int .u64 x1] 55 (0, 0))) := (hb1.block w.heap.size (Array.getElem?_eq_some_iff.1 HM0.out).1).trans HM0.out
  clear hb1 HS HB0 HM0
  go_wp2_with fail
  go_loopw [7] (fun iv wr => ∃ j : Nat, p.length ≤ j ∧ j ≤ p.length + 80 ∧ iv = .int .i64 (j : Int) ∧ Hid (wr.heap[w.heap.size]? = some (.cells #[.int .u64 x0, .int .u64 x1] 55 (0, 0))) ∧ Hid (Below w.heap.size w wr)) (fun iv _ => p.length + 80 - (intOf iv).toNat)
  case atStart => exact ⟨p.length, by omega, by omega, rfl, HM1, HB1⟩
  case round =>
    clear HM1 HB1
    obtain ⟨j, hj0, hj1, rfl, HM, HB⟩ := hrel
    by_cases hlt : j < p.length + 80
    · have hrr := HRw.out.below HB.out
      have hg : (roomR (x0, x1) p)[j]'(by rw [roomR_len]; omega) = (x0, x1) := by
        unfold roomR
        rw [List.getElem_append_right (by omega), List.getElem_replicate]
      have c0 := hrr.cell0 j (by rw [roomR_len]; omega)
      have c1 := hrr.cell1 j (by rw [roomR_len]; omega)
      rw [hg] at c0 c1
      have m0 : wr.cell? ⟨w.heap.size, 0, none⟩ = some (.int .u64 x0) := by rw [cell_of_row _ _ _ _ _ _ HM.out]; rfl
      have m1 : wr.cell? ⟨w.heap.size, 1, none⟩ = some (.int .u64 x1) := by rw [cell_of_row _ _ _ _ _ _ HM.out]; rfl
      have ji : (j : Int) < (p.length : Int) + 80 := by omega
      have hw1 : IntKind.i64.wrap ((j : Int) + 1) = ((j + 1 : Nat) : Int) := by rw [IntKind.wrap_i64]; omega
      clear hrr hg
      go_wp2_with fail
      go_region_held3 (fun w' => w'.cell? ⟨g, j * 2, none⟩ = some (.int .u64 x0) ∧ w'.cell? ⟨g, j * 2 + 1, none⟩ = some (.int .u64 x1) ∧ w'.cell? ⟨w.heap.size, 0, none⟩ = some (.int .u64 x0) ∧ w'.cell? ⟨w.heap.size, 1, none⟩ = some (.int .u64 x1)) (go_keep) (fail)
      go_wp2_with fail
      go_roundw
      case rel => exact ⟨j + 1, by omega, by omega, by go_num, HM, HB.out.drew⟩
      case measure => simp [intOf]; omega
    · obtain rfl : j = p.length + 80 := by omega
      go_wp2_with fail
      go_ret
      exact ⟨rfl, HB.out⟩
end Go.Proofs.YtddgoncbdlhhhaaGreat
/- handed. Own work. -/
namespace Go.Proofs.YtddgoncbdlhhhaaGreat
open Go.RowKit Go.Maps Go.Proofs.YtddgoncbdlhhhaaGreat.Sp
set_option maxRecDepth 100000 in
set_option maxHeartbeats 4000000 in
theorem handed_any {w : World} {vr vd : Value} {rs ds : List Sp} (hr : U64.SV w vr rs) (hd : U64.SV w vd ds) (hl : rs.length ≤ 8796093022000) (hl2 : ds.length ≤ 8796093022000) :
    Calls Tryz.prog 13 #[.agg #[vr, vd]] w fun e w' => ∃ gx gy, e = .returned (.tuple #[.agg #[.slice (some ⟨gx, 0, none⟩) rs.length (rs.length + 80), .slice (some ⟨gy, 0, none⟩) ds.length (ds.length + 80)], .slice (some ⟨gx, 0, none⟩) (rs.length + 80) (rs.length + 80), .slice (some ⟨gy, 0, none⟩) (ds.length + 80) (ds.length + 80)]) ∧ Hid (RowR w' gx (roomR (5, 0) rs)) ∧ Hid (RowR w' gy (roomR (6, 0) ds)) ∧ Hid (w.heap.size ≤ gx ∧ gx < gy ∧ Below w.heap.size w w') := by
  have HR : Hid (∀ W, Below w.heap.size w W → Calls Tryz.prog 38 #[vr, .agg #[.int .u64 5, .int .u64 0]] W fun e w' => ∃ g, W.heap.size ≤ g ∧ e = .returned (.slice (some ⟨g, 0, none⟩) (rs.length + 80) (rs.length + 80)) ∧ RowR w' g (roomR (5, 0) rs) ∧ Below W.heap.size W w') := fun W hW => roomyR_any (mk := (5, 0)) (hr.below hW (Nat.le_refl _)) hl
  have HD : Hid (∀ W, Below w.heap.size w W → Calls Tryz.prog 38 #[vd, .agg #[.int .u64 6, .int .u64 0]] W fun e w' => ∃ g, W.heap.size ≤ g ∧ e = .returned (.slice (some ⟨g, 0, none⟩) (ds.length + 80) (ds.length + 80)) ∧ RowR w' g (roomR (6, 0) ds) ∧ Below W.heap.size W w') := fun W hW => roomyR_any (mk := (6, 0)) (hd.below hW (Nat.le_refl _)) hl2
  obtain ⟨ar, cr, rfl, hq1⟩ := hr
  clear hq1
  obtain ⟨ad, cd, rfl, hq2⟩ := hd
  clear hq2
  go_enter Tryz.func13, Tryz.ntmps13
  go_wp2_with fail
  obtain ⟨W0, hW0⟩ : ∃ W0, (w.alloc (Obj.cells #[.slice ar rs.length cr, .slice ad ds.length cd] 24)).alloc (Obj.cells #[.slice none 0 0, .slice none 0 0] 24) = W0 := ⟨_, rfl⟩
  have HB0 : Hid (Below w.heap.size w W0) := hW0 ▸ ((Below.refl _ _).alloc (Nat.le_refl _) _).alloc (by simp) _
  have HX0 : Hid (BoxB W0 w.heap.size (.slice ar rs.length cr) (.slice ad ds.length cd)) := hW0 ▸ (show BoxB (w.alloc (Obj.cells #[.slice ar rs.length cr, .slice ad ds.length cd] 24)) w.heap.size _ _ from heap_alloc_new w _).below ((Below.refl _ _).alloc (Nat.le_refl _) _)
  have HY0 : Hid (BoxB W0 (w.heap.size + 1) (.slice none 0 0) (.slice none 0 0)) := by
    have := heap_alloc_new (w.alloc (Obj.cells #[.slice ar rs.length cr, .slice ad ds.length cd] 24)) (Obj.cells #[.slice none 0 0, .slice none 0 0] 24)
    rw [show (w.alloc (Obj.cells #[.slice ar rs.length cr, .slice ad ds.length cd] 24)).heap.size = w.heap.size + 1 by simp, hW0] at this
    exact this
  have HZ0 : Hid (W0.heap.size = w.heap.size + 2) := by show _ = _; rw [← hW0]; simp
  try rw [hW0]
  clear hW0
  refine (HR.out _ HB0.out).mono ?_
  rintro e w1 ⟨gx, hgx, rfl, hrx, hb1⟩
  have HB1 : Hid (Below W0.heap.size W0 w1) := hb1
  have HRx : Hid (RowR w1 gx (roomR (5, 0) rs)) := hrx
  have HBw1 : Hid (Below w.heap.size w w1) := HB0.out.trans (hb1.mono HB0.out.size)
  obtain ⟨x0, x1, _, _⟩ := (HX0.out.below hb1).cells
  clear hb1 hrx HR
  go_wp2_with fail
  refine (HD.out _ HBw1.out).mono ?_
  rintro e w2 ⟨gy, hgy, rfl, hry, hb2⟩
  have HB2 : Hid (Below w1.heap.size w1 w2) := hb2
  have HRy : Hid (RowR w2 gy (roomR (6, 0) ds)) := hry
  have HRx2 : Hid (RowR w2 gx (roomR (5, 0) rs)) := HRx.out.below hb2
  have HBw2 : Hid (Below w.heap.size w w2) := HBw1.out.trans (hb2.mono HBw1.out.size)
  have HY2 : Hid (BoxB w2 (w.heap.size + 1) (.slice none 0 0) (.slice none 0 0)) := (HY0.out.below HB1.out).below hb2
  obtain ⟨x0, x1, _, _⟩ := ((HX0.out.below HB1.out).below hb2).cells
  obtain ⟨y0, y1, f0, f1⟩ := HY2.out.cells
  have HLt : Hid (w.heap.size + 2 ≤ gx ∧ gx < gy) := ⟨by have := HZ0.out; omega, Nat.lt_of_lt_of_le HRx.out.lt hgy⟩
  have hne : w.heap.size ≠ w.heap.size + 1 := by omega
  clear hb2 hry HD hgx hgy
  have HL1 := Lib.hid hl
  have HL2 := Lib.hid hl2
  obtain ⟨n, hN⟩ : ∃ n, rs.length = n := ⟨_, rfl⟩
  obtain ⟨k, hM⟩ : ∃ k, ds.length = k := ⟨_, rfl⟩
  obtain ⟨P, hP⟩ : ∃ P, rs.length + 80 = P := ⟨_, rfl⟩
  obtain ⟨Q, hQ⟩ : ∃ Q, ds.length + 80 = Q := ⟨_, rfl⟩
  have HE : Hid (rs.length = n ∧ ds.length = k ∧ rs.length + 80 = P ∧ ds.length + 80 = Q) := ⟨hN, hM, hP, hQ⟩
  have i1 : (n : Int) ≤ (P : Int) := by omega
  have i2 : (k : Int) ≤ (Q : Int) := by omega
  have i3 : n ≤ P := by omega
  have i4 : k ≤ Q := by omega
  have i5 : P ≤ 8796093023000 := by omega
  have i6 : Q ≤ 8796093023000 := by omega
  rw [hP, hQ, hN, hM]
  rw [hN] at x0
  rw [hM] at x1
  clear hN hM hP hQ hl hl2
  go_wp2_with fail
  go_region_held3 (fun w' => w'.cell? ⟨w.heap.size, 0, none⟩ = some (.slice ar n cr) ∧ w'.cell? ⟨w.heap.size, 1, none⟩ = some (.slice ad k cd)) (first | exact ⟨(U64.set_other hne).trans ((U64.set_other hne).trans x0), (U64.set_other hne).trans ((U64.set_other hne).trans x1)⟩ | go_keep) (fail)
  go_wp2_with fail
  obtain ⟨d0, d1, _⟩ := BoxB.cells (w := ((w2.setCell ⟨w.heap.size + 1, 0, none⟩ (.slice (some ⟨gx, 0, none⟩) n P)).setCell ⟨w.heap.size + 1, 1, none⟩ (.slice (some ⟨gy, 0, none⟩) k Q)).drew) (HY2.out.set (.slice (some ⟨gx, 0, none⟩) n P) (.slice (some ⟨gy, 0, none⟩) k Q))
  refine bodyPost_ret (v := .tuple #[.agg #[.slice (some ⟨gx, 0, none⟩) n P, .slice (some ⟨gy, 0, none⟩) k Q], .slice (some ⟨gx, 0, none⟩) P P, .slice (some ⟨gy, 0, none⟩) Q Q]) (by simp [results, Tryz.results13, go_sem, d0, d1]) rfl ?_
  have hk2 : Keeps (fun j => j = w.heap.size + 1) w2 ((w2.setCell ⟨w.heap.size + 1, 0, none⟩ (.slice (some ⟨gx, 0, none⟩) n P)).setCell ⟨w.heap.size + 1, 1, none⟩ (.slice (some ⟨gy, 0, none⟩) k Q)).drew := (Keeps.two' w2 (w.heap.size + 1) _ _).drew
  have hlt := HLt.out
  obtain ⟨e1, e2, e3, e4⟩ := HE.out
  rw [e3, e4, e1, e2]
  exact ⟨gx, gy, rfl, HRx2.out.keeps hk2 (by omega), HRy.out.keeps hk2 (by omega), by omega, hlt.2, (((HBw2.out.setCell (p := ⟨w.heap.size + 1, 0, none⟩) (show w.heap.size ≤ w.heap.size + 1 by omega) _).setCell (p := ⟨w.heap.size + 1, 1, none⟩) (show w.heap.size ≤ w.heap.size + 1 by omega) _)).drew⟩
end Go.Proofs.YtddgoncbdlhhhaaGreat
/- made: the machine of a bus, or none. Own work. -/
namespace Go.Proofs.YtddgoncbdlhhhaaGreat
open Go.RowKit Go.Maps Go.Proofs.YtddgoncbdlhhhaaGreat.Sp
/-- a row of ranges of which only its length is known -/
def RowN (w : World) (g n : Nat) : Prop := ∃ L : List Sp, L.length = n ∧ RowR w g L
theorem RowN.keeps {Z : Nat → Prop} {w w' : World} {g n : Nat} (h : RowN w g n) (hk : Keeps Z w w') (hn : ¬ Z g) : RowN w' g n := h.imp fun _ h => ⟨h.1, h.2.keeps hk hn⟩
theorem RowN.set {w : World} {g n : Nat} (h : RowN w g n) (j : Nat) (hj : j < n) (x y : Int) : RowN ((w.setCell ⟨g, j * 2, none⟩ (.int .u64 x)).setCell ⟨g, j * 2 + 1, none⟩ (.int .u64 y)) g n := by
  obtain ⟨L, h1, h2⟩ := h
  exact ⟨L.set j (x, y), by rw [List.length_set]; exact h1, h2.set j (by omega) (x, y)⟩
theorem RowN.some {w : World} {g n : Nat} (h : RowN w g n) (j : Nat) (hj : j < n) : ∃ p q, w.cell? ⟨g, j * 2, none⟩ = some (.int .u64 p) ∧ w.cell? ⟨g, j * 2 + 1, none⟩ = some (.int .u64 q) ∧ w.frozen? ⟨g, j * 2, none⟩ = false ∧ w.frozen? ⟨g, j * 2 + 1, none⟩ = false := by
  obtain ⟨L, h1, h2⟩ := h
  exact ⟨_, _, h2.cell0 j (by omega), h2.cell1 j (by omega), by simp [World.frozen?, show w.heap[g]? = _ from h2], by simp [World.frozen?, show w.heap[g]? = _ from h2]⟩
theorem Keeps.two2 (w : World) (g i j : Nat) (u v : Value) : Keeps (fun k => k = g) w ((w.setCell ⟨g, i, none⟩ u).setCell ⟨g, j, none⟩ v) :=
  (Keeps.setCell w g i u).trans (Keeps.setCell _ g j v) (fun _ _ e => e)
set_option maxRecDepth 100000 in
set_option maxHeartbeats 8000000 in
theorem made_any {w : World} {vr vd : Value} {rs ds : List Sp} (hr : U64.SV w vr rs) (hd : U64.SV w vd ds) (fr : Fits 18446744073709551615 rs) (fd : Fits 18446744073709551615 ds) (hl : rs.length ≤ 8796093022000) (hl2 : ds.length ≤ 8796093022000) :
    Calls Tryz.prog 5 #[.agg #[vr, vd]] w fun e w' => ∃ pm, e = .returned (.tuple #[.pointer pm, .bool true]) ∧ Hid (Below w.heap.size w w') ∧ Hid (MadeR w.heap.size w' pm rs ds) := by
  have HR : Hid (U64.SV w vr rs) := hr
  have HD : Hid (U64.SV w vd ds) := hd
  have HFr : Hid (Fits 18446744073709551615 rs) := fr
  have HFd : Hid (Fits 18446744073709551615 ds) := fd
  have HB0 : Hid (Below w.heap.size w (w.alloc (Obj.cells #[vr, vd] 24))) := (Below.refl _ _).alloc (Nat.le_refl _) _
  have HX0 : Hid (BoxB (w.alloc (Obj.cells #[vr, vd] 24)) w.heap.size vr vd) := heap_alloc_new w _
  have HHa := Lib.hid (handed_any (HR.out.below HB0.out (Nat.le_refl _)) (HD.out.below HB0.out (Nat.le_refl _)) hl hl2)
  have HIn1 : Hid (∀ W g, Below w.heap.size w W → RowR W g (roomR (5, 0) rs) → Calls Tryz.prog 15 #[.slice (some ⟨g, 0, none⟩) (rs.length + 80) (rs.length + 80), vr, .agg #[.int .u64 5, .int .u64 0]] W fun e w' => e = .returned (.bool true) ∧ Below W.heap.size W w') := fun W g hW hg => intactR_any (x0 := 5) (x1 := 0) hg (HR.out.below hW (Nat.le_refl _)) hl
  have HIn2 : Hid (∀ W g, Below w.heap.size w W → RowR W g (roomR (6, 0) ds) → Calls Tryz.prog 15 #[.slice (some ⟨g, 0, none⟩) (ds.length + 80) (ds.length + 80), vd, .agg #[.int .u64 6, .int .u64 0]] W fun e w' => e = .returned (.bool true) ∧ Below W.heap.size W w') := fun W g hW hg => intactR_any (x0 := 6) (x1 := 0) hg (HD.out.below hW (Nat.le_refl _)) hl2
  have HRf : Hid (∀ W, Below w.heap.size w W → Calls Tryz.prog 16 #[.agg #[vr, vd]] W fun e w' => e = .returned (.int .i64 (refW rs ds)) ∧ Below W.heap.size W w') := fun W hW => refuses_any (HR.out.below hW (Nat.le_refl _)) (HD.out.below hW (Nat.le_refl _)) HFr.out HFd.out
  clear hr hd fr fd
  go_enter Tryz.func5, Tryz.ntmps5
  go_wp2_with fail
  refine HHa.out.mono ?_
  rintro e w1 ⟨gx, gy, rfl, HRx, HRy, HG⟩
  have HB1 : Hid (Below (w.heap.size + 1) (w.alloc (Obj.cells #[vr, vd] 24)) w1) := HG.out.2.2.mono (by simp)
  have HBw1 : Hid (Below w.heap.size w w1) := HB0.out.trans (HB1.out.mono (Nat.le_succ _))
  have HX1 : Hid (BoxB w1 w.heap.size vr vd) := (HB1.out.block w.heap.size (Nat.lt_succ_self _)).trans HX0.out
  have HLt : Hid (w.heap.size + 1 ≤ gx ∧ gx < gy ∧ gy < w1.heap.size) := ⟨by have := HG.out.1; simp at this; exact this, HG.out.2.1, HRy.out.lt⟩
  have HNw : Hid (Calls Tryz.prog 14 #[.agg #[.slice (some ⟨gx, 0, none⟩) rs.length (rs.length + 80), .slice (some ⟨gy, 0, none⟩) ds.length (ds.length + 80)]] (w1.alloc (Obj.cells #[.slice (some ⟨gx, 0, none⟩) rs.length (rs.length + 80), .slice (some ⟨gy, 0, none⟩) ds.length (ds.length + 80)] 24)) fun e w' => ∃ pm, e = .returned (.tuple #[.pointer pm, .int .i64 (refW rs ds)]) ∧ Hid (Below w1.heap.size w1 w') ∧ Hid (MadeR w1.heap.size w' pm rs ds)) := by
    have hb : Below w1.heap.size w1 (w1.alloc (Obj.cells #[.slice (some ⟨gx, 0, none⟩) rs.length (rs.length + 80), .slice (some ⟨gy, 0, none⟩) ds.length (ds.length + 80)] 24)) := (Below.refl _ _).alloc (Nat.le_refl _) _
    have s1 := (HRx.out.below hb).sv (n := rs.length) (c := rs.length + 80) (by rw [roomR_len]; omega) (by omega) (by unfold maxLen; omega)
    have s2 := (HRy.out.below hb).sv (n := ds.length) (c := ds.length + 80) (by rw [roomR_len]; omega) (by omega) (by unfold maxLen; omega)
    rw [roomR, List.take_left] at s1 s2
    refine (new_any s1 s2 HFr.out HFd.out).mono ?_
    rintro e w' ⟨pm, rfl, hb', hm⟩
    exact ⟨pm, rfl, hb.trans (hb'.out.mono hb.size), hm.out.mono hb.size⟩
  clear HHa HG HB1
  obtain ⟨why, hwhy⟩ : ∃ why, refW rs ds = why := ⟨_, rfl⟩
  rw [hwhy] at HNw HRf
  have HWhy : Hid (refW rs ds = why) := hwhy
  clear hwhy
  go_wp2_with fail
  refine HNw.out.mono ?_
  rintro e w2 ⟨pm, rfl, HB2, HM2⟩
  have HBw2 : Hid (Below w.heap.size w w2) := HBw1.out.trans (HB2.out.mono HBw1.out.size)
  have HX2 : Hid (BoxB w2 w.heap.size vr vd) := HX1.out.below HB2.out
  obtain ⟨x0, x1, _, _⟩ := HX2.out.cells
  clear HNw
  go_wp2_with fail
  refine (HIn1.out _ gx HBw2.out (HRx.out.below HB2.out)).mono ?_
  rintro e w3 ⟨rfl, hb3⟩
  have HB3 : Hid (Below w2.heap.size w2 w3) := hb3
  have HBw3 : Hid (Below w.heap.size w w3) := HBw2.out.trans (hb3.mono HBw2.out.size)
  obtain ⟨x0, x1, _, _⟩ := (HX2.out.below hb3).cells
  clear hb3 HIn1
  go_wp2_with fail
  refine (HIn2.out _ gy HBw3.out ((HRy.out.below HB2.out).below HB3.out)).mono ?_
  rintro e w4 ⟨rfl, hb4⟩
  have HB14 : Hid (Below w1.heap.size w1 w4) := HB2.out.trans ((HB3.out.trans (hb4.mono HB3.out.size)).mono HB2.out.size)
  have HBw4 : Hid (Below w.heap.size w w4) := HBw3.out.trans (hb4.mono HBw3.out.size)
  have HX4 : Hid (BoxB w4 w.heap.size vr vd) := (HX2.out.below HB3.out).below hb4
  have HM4 : Hid (MadeR w1.heap.size w4 pm rs ds) := (HM2.out.below HB3.out).below hb4
  have HRx4 : Hid (RowN w4 gx (rs.length + 80)) := ⟨_, roomR_len _ _, HRx.out.below HB14.out⟩
  have HRy4 : Hid (RowN w4 gy (ds.length + 80)) := ⟨_, roomR_len _ _, HRy.out.below HB14.out⟩
  clear hb4 HIn2 HX2 HB3 HB2 HBw3 HBw2 HM2 HRx HRy HX1 HX0 HB0
  obtain ⟨N, hN⟩ : ∃ N, N = rs.length + 80 := ⟨_, rfl⟩
  obtain ⟨M, hM⟩ : ∃ M, M = ds.length + 80 := ⟨_, rfl⟩
  have n1 : N ≤ 8796093023000 := by omega
  have n2 : M ≤ 8796093023000 := by omega
  rw [← hN] at HRx4
  rw [← hM] at HRy4
  rw [← hN, ← hM]
  clear hN hM
  go_wp2_with fail
  go_loopw [10] (fun iv wr => ∃ k : Nat, k ≤ N ∧ iv = .int .i64 (k : Int) ∧ Hid (Keeps (fun j => j = gx) w4 wr) ∧ Hid (RowN wr gx N)) (fun iv _ => N - (intOf iv).toNat)
  case atStart => exact ⟨0, Nat.zero_le _, rfl, Keeps.refl _ _, HRx4⟩
  case round =>
    clear HRx4
    obtain ⟨k, hk, rfl, HK, HRx⟩ := hrel
    by_cases hlt : k < N
    · obtain ⟨p, q, d0, d1, f0, f1⟩ := HRx.out.some k hlt
      have ji : (k : Int) < (N : Int) := by omega
      go_wp2_with fail
      go_roundw
      case rel => exact ⟨k + 1, by omega, by go_num, HK.out.trans (Keeps.two2 _ _ _ _ _ _) (fun _ _ e => e), HRx.out.set k hlt 0 4096⟩
      case measure => simp [intOf]; omega
    · obtain rfl : k = N := by omega
      obtain ⟨w5, hw5⟩ : ∃ w5, w5 = wr := ⟨_, rfl⟩
      subst hw5
      have HRy5 : Hid (RowN w5 gy M) := HRy4.out.keeps HK.out (by have := HLt.out; omega)
      have HX5 : Hid (BoxB w5 w.heap.size vr vd) := HX4.out.keeps HK.out (by have := HLt.out; omega)
      have HM5 : Hid (MadeR w1.heap.size w5 pm rs ds) := HM4.out.keeps HK.out (fun j e => by have := HLt.out; omega)
      have HBw5 : Hid (Below w.heap.size w w5) := HBw4.out.trans (HK.out.below HBw4.out.size (fun i _ e => by have := HLt.out; omega))
      clear HRy4 HX4 HM4 HBw4 HK HRx hk hlt
      go_wp2_with fail
      go_loopw [11] (fun iv wr => ∃ k : Nat, k ≤ M ∧ iv = .int .i64 (k : Int) ∧ Hid (Keeps (fun j => j = gy) w5 wr) ∧ Hid (RowN wr gy M)) (fun iv _ => M - (intOf iv).toNat)
      case atStart => exact ⟨0, Nat.zero_le _, rfl, Keeps.refl _ _, HRy5⟩
      case round =>
        clear HRy5
        obtain ⟨k, hk, rfl, HK, HRy⟩ := hrel
        by_cases hlt : k < M
        · obtain ⟨p, q, d0, d1, f0, f1⟩ := HRy.out.some k hlt
          have ji : (k : Int) < (M : Int) := by omega
          go_wp2_with fail
          go_roundw
          case rel => exact ⟨k + 1, by omega, by go_num, HK.out.trans (Keeps.two2 _ _ _ _ _ _) (fun _ _ e => e), HRy.out.set k hlt 0 4096⟩
          case measure => simp [intOf]; omega
        · obtain rfl : k = M := by omega
          have HX6 : Hid (BoxB wr w.heap.size vr vd) := HX5.out.keeps HK.out (by have := HLt.out; omega)
          have HM6 : Hid (MadeR w1.heap.size wr pm rs ds) := HM5.out.keeps HK.out (fun j e => by have := HLt.out; omega)
          have HBw6 : Hid (Below w.heap.size w wr) := HBw5.out.trans (HK.out.below HBw5.out.size (fun i _ e => by have := HLt.out; omega))
          obtain ⟨x0, x1, _, _⟩ := HX6.out.cells
          clear HX5 HM5 HBw5 HK HRy hk hlt
          go_wp2_with fail
          refine (HRf.out _ HBw6.out).mono ?_
          rintro e w7 ⟨rfl, hb7⟩
          have HBw7 : Hid (Below w.heap.size w w7) := HBw6.out.trans (hb7.mono HBw6.out.size)
          have HM7 : Hid (MadeR w.heap.size w7 pm rs ds) := (HM6.out.below hb7).mono HBw1.out.size
          clear hb7 HRf
          rcases HM7.out with ⟨h0, rfl⟩ | ⟨h0, m, B, V, rfl, hm, hj⟩
          · have hw0 : ¬ why = 0 := by rw [← HWhy.out]; exact h0
            have hw1 : (why == 0) = false := by simpa using hw0
            clear h0 HWhy
            go_wp2_with fail
            go_ret2
            exact ⟨none, rfl, HBw7, HM7⟩
          · obtain rfl : why = 0 := by rw [← HWhy.out]; exact h0
            clear h0 HWhy hm hj
            go_wp2_with fail
            go_ret2
            exact ⟨some ⟨m, 0, none⟩, rfl, HBw7, HM7⟩
end Go.Proofs.YtddgoncbdlhhhaaGreat
