/- Roomy and Intact of ranges. Own work. -/
import Derived.Test.YtmaahompmgmkfaaRgRow
import Derived.Test.YtmaahompmgmkfaaBSame
import Derived.Deep.RegionLaw
namespace Go.Proofs.Ytmaahompmgmkfaa
open Go.RowKit Go.Maps Go.Proofs.Ytmaahompmgmkfaa.Sp
/-- a row with 80 more places, of which k bear the mark -/
def fillR (mk : Sp) (p : List Sp) (k : Nat) : List Sp := p ++ (List.replicate k mk ++ List.replicate (80 - k) (0, 0))
def roomR (mk : Sp) (p : List Sp) : List Sp := p ++ List.replicate 80 mk
theorem fillR_len (mk : Sp) (p : List Sp) (k : Nat) (hk : k ≤ 80) : (fillR mk p k).length = p.length + 80 := by simp [fillR]; omega
theorem roomR_len (mk : Sp) (p : List Sp) : (roomR mk p).length = p.length + 80 := by rw [roomR, List.length_append, List.length_replicate]
theorem fillR_set (mk : Sp) (p : List Sp) (k : Nat) (hk : k < 80) : (fillR mk p k).set (p.length + k) mk = fillR mk p (k + 1) := by
  unfold fillR
  rw [List.set_append_right _ _ (by omega), Nat.add_sub_cancel_left, List.set_append_right _ _ (by simp), List.length_replicate, Nat.sub_self, show 80 - k = (80 - (k + 1)) + 1 by omega, List.replicate_succ, List.set_cons_zero, List.replicate_succ', List.append_assoc]
  rfl
theorem fillR_end (mk : Sp) (p : List Sp) : fillR mk p 80 = roomR mk p := by simp only [fillR, roomR, Nat.sub_self, List.replicate_zero, List.append_nil]
theorem madeR {w : World} {base g n : Nat} (h : w.ownsRow base 31 2 (.slice (some ⟨g, 0, none⟩) n n) n (madeCells #[Value.int .u64 0, .int .u64 0] (n * 2)).toList) : RowR w g (List.replicate n (0, 0)) := by
  rcases h.2 with ⟨hc, _⟩ | ⟨g', cap, cur, hv, _, hg, _, _, hs, ht⟩
  · cases hc
  · cases hv
    unfold RowR
    rw [hg]
    have e : cur.toList = U64.encs (List.replicate n (0, 0)) := by
      rw [List.take_of_length_le (by simp [hs])] at ht
      rw [ht]
      apply List.ext_getElem?
      intro j
      by_cases hj : j < n * 2
      · rw [Array.getElem?_toList]
        have hj' : j < (madeCells #[Value.int .u64 0, .int .u64 0] (n * 2)).size := by rw [size_madeCells]; omega
        rw [Array.getElem?_eq_getElem hj']
        have : (madeCells #[Value.int .u64 0, .int .u64 0] (n * 2))[j] = .int .u64 0 := by
          simp only [madeCells, Array.getElem_map, Array.getElem_range]
          have h2 : (#[Value.int .u64 0, .int .u64 0] : Array Value).size = 2 := rfl
          rw [h2]
          rcases (by omega : j % 2 = 0 ∨ j % 2 = 1) with e | e <;> rw [e] <;> rfl
        rw [this]
        rcases (by omega : j % 2 = 0 ∨ j % 2 = 1) with e | e
        · rw [show j = j / 2 * 2 by omega, U64.encs_get0 _ (j / 2) (by rw [List.length_replicate]; omega), List.getElem_replicate]
        · rw [show j = j / 2 * 2 + 1 by omega, U64.encs_get1 _ (j / 2) (by rw [List.length_replicate]; omega), List.getElem_replicate]
      · rw [List.getElem?_eq_none (by rw [Array.length_toList, size_madeCells]; omega), List.getElem?_eq_none (by rw [U64.encs_length, List.length_replicate]; omega)]
    rw [← e]
set_option maxRecDepth 100000 in
set_option maxHeartbeats 4000000 in
theorem roomyR_any {v : Value} {p : List Sp} {w : World} {mk : Sp} (hv : U64.SV w v p) (hp : p.length ≤ 8796093022000) :
    Calls Try.prog 25 #[v, .agg #[.int .u64 mk.1, .int .u64 mk.2]] w fun e w' => ∃ g, w.heap.size ≤ g ∧ e = .returned (.slice (some ⟨g, 0, none⟩) (p.length + 80) (p.length + 80)) ∧ RowR w' g (roomR mk p) ∧ Below w.heap.size w w' := by
  obtain ⟨i, hi, hz0, hz1, hz2⟩ := info_parts info_rg
  have HV := Lib.hid hv
  obtain ⟨ao, cap, rfl, h1, h2, _⟩ := hv
  unfold maxLen at h2
  go_enter Try.func25, Try.ntmps25
  go_wp2_with (at_make; refine wpList_make_full _ rfl _ _ 22 rfl w.heap.size 31 i (.agg #[.int .u64 0, .int .u64 0]) 2 Try.underlying22 hi hz0 hz1 _ _ _ _ (p.length + 80) rfl rfl (by omega) (by omega) (by rw [hz2]; omega) (by simp only [maxLen]; omega) (by simp) ?_)
  intro w1 hown hgrow
  have hb1 : Below w.heap.size w w1 := ((Below.refl _ _).alloc (Nat.le_refl _) _).grown hgrow (by simp) (by simp)
  have hmk : w1.heap[w.heap.size]? = some (.cells #[.int .u64 mk.1, .int .u64 mk.2] 31 (0, 0)) := (hgrow.block w.heap.size (by simp) (by simp)).trans (Array.getElem?_push_size (xs := w.heap))
  have hr1 : RowR w1 (w.heap.size + 1) (List.replicate (p.length + 80) (0, 0)) := madeR hown
  have HR1 := Lib.hid hr1
  have HMk := Lib.hid hmk
  have HV1 := Lib.hid (HV.out.below hb1 (Nat.le_refl _))
  have HB1 := Lib.hid hb1
  clear hown hgrow hr1 hmk hb1 hi hz0 hz1 hz2
  go_wp2_with (refine wpList_copyR rfl (.tmp 11) (.tmp 12) rfl (m := 80) rfl rfl HR1.out HV1.out ?_)
  intro w2 HR2 HK2
  have HB2 : Hid (Below w.heap.size w w2) := HB1.out.trans (HK2.out.below HB1.out.size (fun k _ e => by omega))
  have HM2 : Hid (w2.heap[w.heap.size]? = some (.cells #[.int .u64 mk.1, .int .u64 mk.2] 31 (0, 0))) := (HK2.out.block w.heap.size (Array.getElem?_eq_some_iff.1 HMk.out).1 (by omega)).trans HMk.out
  have HF2 : Hid (RowR w2 (w.heap.size + 1) (fillR mk p 0)) := HR2.out
  clear HR2 HK2 HR1 HMk HV1 HB1
  go_wp2_with fail
  go_loopw [6] (fun iv wr => ∃ k : Nat, k ≤ 80 ∧ iv = .int .i64 ((p.length + k : Nat) : Int) ∧ Hid (RowR wr (w.heap.size + 1) (fillR mk p k)) ∧ Hid (wr.heap[w.heap.size]? = some (.cells #[.int .u64 mk.1, .int .u64 mk.2] 31 (0, 0))) ∧ Hid (Below w.heap.size w wr)) (fun iv _ => p.length + 80 - (intOf iv).toNat)
  case atStart => exact ⟨0, by omega, rfl, HF2, HM2, HB2⟩
  case round =>
    clear HF2 HM2 HB2
    obtain ⟨k, hk, rfl, HF, HM, HB⟩ := hrel
    by_cases hlt : k < 80
    · have hl := fillR_len mk p k hk
      obtain ⟨j, hj⟩ : ∃ j, p.length + k = j := ⟨_, rfl⟩
      have c0 := HF.out.cell0 j (by omega)
      have c1 := HF.out.cell1 j (by omega)
      have f0 : wr.frozen? ⟨w.heap.size + 1, j * 2, none⟩ = false := by simp [World.frozen?, show wr.heap[w.heap.size + 1]? = _ from HF.out]
      have f1 : wr.frozen? ⟨w.heap.size + 1, j * 2 + 1, none⟩ = false := by simp [World.frozen?, show wr.heap[w.heap.size + 1]? = _ from HF.out]
      have m0 : wr.cell? ⟨w.heap.size, 0, none⟩ = some (.int .u64 mk.1) := by rw [cell_of_row _ _ _ _ _ _ HM.out]; rfl
      have m1 : wr.cell? ⟨w.heap.size, 1, none⟩ = some (.int .u64 mk.2) := by rw [cell_of_row _ _ _ _ _ _ HM.out]; rfl
      have HS := Lib.hid (HF.out.set j (by omega) mk)
      have HSe : Hid ((fillR mk p k).set j mk = fillR mk p (k + 1)) := by
        show _ = _
        rw [← hj]
        exact fillR_set mk p k hlt
      have ji : (j : Int) < (p.length : Int) + 80 := by omega
      have jn : j < p.length + 80 := by omega
      have hw1 : IntKind.i64.wrap ((j : Int) + 1) = ((j + 1 : Nat) : Int) := by rw [IntKind.wrap_i64]; omega
      have HJ : Hid (p.length + k = j) := hj
      rw [hj]
      generalize (fillR mk p k)[j]'(by omega) = y at *
      clear hj hl
      go_wp2_with fail
      go_roundw
      case rel =>
        refine ⟨k + 1, by omega, by have := HJ.out; congr 1; omega, ?_, ?_, (HB.out.setCell (Nat.le_succ _) _).setCell (Nat.le_succ _) _⟩
        · have h := HS.out
          rw [HSe.out] at h
          exact h
        · exact (Below.heap_setCell _ _ _ _ (by simp)).trans ((Below.heap_setCell _ _ _ _ (by simp)).trans HM.out)
      case measure => simp [intOf]; omega
    · obtain rfl : k = 80 := by omega
      go_wp2_with fail
      go_ret
      refine ⟨w.heap.size + 1, by omega, rfl, ?_, HB.out⟩
      have h := HF.out
      rw [fillR_end] at h
      exact h
set_option maxRecDepth 100000 in
set_option maxHeartbeats 4000000 in
theorem intactR_any {v : Value} {p : List Sp} {w : World} {g : Nat} {x0 x1 : Int} (hr : RowR w g (roomR (x0, x1) p)) (hv : U64.SV w v p) (hp : p.length ≤ 8796093022000) :
    Calls Try.prog 17 #[.slice (some ⟨g, 0, none⟩) (p.length + 80) (p.length + 80), v, .agg #[.int .u64 x0, .int .u64 x1]] w fun e w' => e = .returned (.bool true) ∧ Below w.heap.size w w' := by
  have HV := Lib.hid hv
  have hne := neq_range
  have hgd := guard_ranges
  have HRw := Lib.hid hr
  have hb3 := hv
  obtain ⟨ao, cap, rfl, h1, h2, _⟩ := hb3
  unfold maxLen at h2
  have HP := Lib.hid (fun W (h : RowR W g (roomR (x0, x1) p)) => by
    have := h.sv (n := p.length) (c := p.length + 80) (by rw [roomR_len]; omega) (by omega) (by unfold maxLen; omega)
    rw [roomR, List.take_left] at this
    exact this)
  have HB0 : Hid (Below w.heap.size w (w.alloc (.cells #[.int .u64 x0, .int .u64 x1] 31))) := (Below.refl _ _).alloc (Nat.le_refl _) _
  have HM0 : Hid ((w.alloc (.cells #[.int .u64 x0, .int .u64 x1] 31)).heap[w.heap.size]? = some (.cells #[.int .u64 x0, .int .u64 x1] 31 (0, 0))) := Array.getElem?_push_size (xs := w.heap)
  have HS := Lib.hid (rsame_yes (HP.out _ (HRw.out.below HB0.out)) (HV.out.below HB0.out (Nat.le_refl _)))
  clear hr hv
  go_enter Try.func17, Try.ntmps17
  go_wp2_with fail
  refine HS.out.mono ?_
  rintro e w1 ⟨rfl, hb1⟩
  have HB1 : Hid (Below w.heap.size w w1) := HB0.out.trans (hb1.mono HB0.out.size)
  have HM1 : Hid (w1.heap[w.heap.size]? = some (.cells #[.int .u64 x0, .int .u64 x1] 31 (0, 0))) := (hb1.block w.heap.size (Array.getElem?_eq_some_iff.1 HM0.out).1).trans HM0.out
  clear hb1 HS HB0 HM0
  go_wp2_with fail
  go_loopw [7] (fun iv wr => ∃ j : Nat, p.length ≤ j ∧ j ≤ p.length + 80 ∧ iv = .int .i64 (j : Int) ∧ Hid (wr.heap[w.heap.size]? = some (.cells #[.int .u64 x0, .int .u64 x1] 31 (0, 0))) ∧ Hid (Below w.heap.size w wr)) (fun iv _ => p.length + 80 - (intOf iv).toNat)
  case atStart => exact ⟨p.length, by omega, by omega, rfl, HM1, HB1⟩
  case round =>
    clear HM1 HB1
    obtain ⟨j, hj0, hj1, rfl, HM, HB⟩ := hrel
    by_cases hlt : j < p.length + 80
    · have hrr := HRw.out.below HB.out
      have hg : (roomR (x0, x1) p)[j]'(by rw [roomR_len]; omega) = (x0, x1) := by
        unfold roomR
        rw [List.getElem_append_right (by omega), List.getElem_replicate]
      have c0 := hrr.cell0 j (by rw [roomR_len]; omega)
      have c1 := hrr.cell1 j (by rw [roomR_len]; omega)
      rw [hg] at c0 c1
      have m0 : wr.cell? ⟨w.heap.size, 0, none⟩ = some (.int .u64 x0) := by rw [cell_of_row _ _ _ _ _ _ HM.out]; rfl
      have m1 : wr.cell? ⟨w.heap.size, 1, none⟩ = some (.int .u64 x1) := by rw [cell_of_row _ _ _ _ _ _ HM.out]; rfl
      have ji : (j : Int) < (p.length : Int) + 80 := by omega
      have hw1 : IntKind.i64.wrap ((j : Int) + 1) = ((j + 1 : Nat) : Int) := by rw [IntKind.wrap_i64]; omega
      clear hrr hg
      go_wp2_with fail
      go_region_held3 (fun w' => w'.cell? ⟨g, j * 2, none⟩ = some (.int .u64 x0) ∧ w'.cell? ⟨g, j * 2 + 1, none⟩ = some (.int .u64 x1) ∧ w'.cell? ⟨w.heap.size, 0, none⟩ = some (.int .u64 x0) ∧ w'.cell? ⟨w.heap.size, 1, none⟩ = some (.int .u64 x1)) (go_keep) (fail)
      go_wp2_with fail
      go_roundw
      case rel => exact ⟨j + 1, by omega, by omega, by go_num, HM, HB.out.drew⟩
      case measure => simp [intOf]; omega
    · obtain rfl : j = p.length + 80 := by omega
      go_wp2_with fail
      go_ret
      exact ⟨rfl, HB.out⟩
end Go.Proofs.Ytmaahompmgmkfaa
