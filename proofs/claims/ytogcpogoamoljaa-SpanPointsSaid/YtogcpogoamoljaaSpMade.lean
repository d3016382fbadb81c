/- made: the points that two sets of points make. Own work. -/
import Derived.Test.YtogcpogoamoljaaSpMark
namespace Go.Proofs.Ytogcpogoamoljaa
open Go.RowKit Go.Shelf
/-- as far as k -/
def mixN (h f : Nat → Bool) (k : Nat) : Nat → Bool := fun q => if q < k then h q else f q
set_option maxHeartbeats 1000000 in
theorem madeOr_any {f g : Nat → Bool} (w : World) :
    Calls Try.prog 12 #[.int .i64 4, .agg (ptsV f), .agg (ptsV g)] w fun e w' => e = .returned (.agg (ptsV fun q => f q || g q)) ∧ Below w.heap.size w w' := by
  have hz := pts_zero.1
  go_enter Try.func12, Try.ntmps12
  go_wp2_with fail
  obtain ⟨W0, hW0⟩ : ∃ W0, ((w.alloc (Obj.cells (ptsV f) 33)).alloc (Obj.cells (ptsV g) 33)).alloc (Obj.cells (ptsV fun _ => false) 33) = W0 := ⟨_, rfl⟩
  have HP0 : Hid (PtsAt W0 w.heap.size f) := hW0 ▸ ((PtsAt.new w f).alloc _).alloc _
  have HG0 : Hid (PtsAt W0 (w.heap.size + 1) g) := show PtsAt W0 (w.heap.size + 1) g by
    have := (PtsAt.new (w.alloc (Obj.cells (ptsV f) 33)) g).alloc (Obj.cells (ptsV fun _ => false) 33)
    rw [hW0] at this
    simpa using this
  have HQ0 : Hid (PtsAt W0 (w.heap.size + 1 + 1) (fun _ => false)) := show PtsAt W0 (w.heap.size + 1 + 1) (fun _ => false) by
    have := PtsAt.new ((w.alloc (Obj.cells (ptsV f) 33)).alloc (Obj.cells (ptsV g) 33)) (fun _ => false)
    rw [hW0] at this
    simpa using this
  have HB0 : Hid (Below w.heap.size w W0) := hW0 ▸ (((Below.refl _ _).alloc (Nat.le_refl _) _).alloc (by simp) _).alloc (by simp; omega) _
  rw [hW0]
  clear hW0
  go_loopw [7] (fun i wr => ∃ k : Nat, k ≤ 256 ∧ i = .int .i64 (k : Int) ∧ Hid (PtsAt wr w.heap.size (mixN (fun q => f q || g q) f k)) ∧ Hid (PtsAt wr (w.heap.size + 1) g) ∧ Hid (PtsAt wr (w.heap.size + 1 + 1) (fun _ => false)) ∧ Hid (Below w.heap.size w wr)) (fun i _ => 256 - (intOf i).toNat)
  case atStart => exact ⟨0, by omega, rfl, HP0.out.ext (fun i _ => by simp [mixN]), HG0.out, HQ0.out, HB0.out⟩
  case round =>
    obtain ⟨k, hk, rfl, HP, HG, HQ, HB⟩ := hrel
    by_cases hlt : k < 256
    · have hd : decide ((k : Int) < 256) = true := decide_eq_true (by omega)
      have k256 : (k : Int) < 256 := by omega
      have hfr := HP.out.free k
      have c1 := HP.out.cell (p := k) hlt
      have c2 := HG.out.cell (p := k) hlt
      have HS : Hid (∀ b, b = (fun q => f q || g q) k → PtsAt (wr.setCell ⟨w.heap.size, k, none⟩ (.bool b)) w.heap.size (mixN (fun q => f q || g q) f (k + 1)) ∧ PtsAt (wr.setCell ⟨w.heap.size, k, none⟩ (.bool b)) (w.heap.size + 1) g ∧ PtsAt (wr.setCell ⟨w.heap.size, k, none⟩ (.bool b)) (w.heap.size + 1 + 1) (fun _ => false) ∧ Below w.heap.size w (wr.setCell ⟨w.heap.size, k, none⟩ (.bool b))) := fun b hb => ⟨(HP.out.set hlt b).ext (fun i _ => by
        simp only [setF, mixN]
        by_cases e : i = k
        · subst e
          rw [if_pos rfl, if_pos (by omega)]
          exact hb
        · rw [if_neg e]
          by_cases e2 : i < k
          · rw [if_pos e2, if_pos (by omega)]
          · rw [if_neg e2, if_neg (by omega)]), HG.out.other (by omega), HQ.out.other (by omega), HB.out.setCell (p := ⟨w.heap.size, k, none⟩) (Nat.le_refl _) _⟩
      rw [show mixN (fun q => f q || g q) f k k = f k by simp [mixN]] at c1
      cases hf : f k with
      | true =>
        rw [hf] at c1
        cases hg : g k with
        | true =>
          rw [hg] at c2
          obtain ⟨s1, s2, s3, s4⟩ := HS.out true (by simp [hf, hg])
          have HS1 : Hid (PtsAt (wr.setCell ⟨w.heap.size, k, none⟩ (.bool true)) w.heap.size (mixN (fun q => f q || g q) f (k + 1))) := s1
          have HS2 : Hid (PtsAt (wr.setCell ⟨w.heap.size, k, none⟩ (.bool true)) (w.heap.size + 1) g) := s2
          have HS3 : Hid (PtsAt (wr.setCell ⟨w.heap.size, k, none⟩ (.bool true)) (w.heap.size + 1 + 1) (fun _ => false)) := s3
          have HS4 : Hid (Below w.heap.size w (wr.setCell ⟨w.heap.size, k, none⟩ (.bool true))) := s4
          clear s1 s2 s3 s4 HS hf hg
          go_wp2_with fail
          go_roundw
          case rel => exact ⟨k + 1, by omega, by go_num, HS1.out, HS2.out, HS3.out, HS4.out⟩
          case measure => simp [intOf]; omega
        | false =>
          rw [hg] at c2
          obtain ⟨s1, s2, s3, s4⟩ := HS.out true (by simp [hf, hg])
          have HS1 : Hid (PtsAt (wr.setCell ⟨w.heap.size, k, none⟩ (.bool true)) w.heap.size (mixN (fun q => f q || g q) f (k + 1))) := s1
          have HS2 : Hid (PtsAt (wr.setCell ⟨w.heap.size, k, none⟩ (.bool true)) (w.heap.size + 1) g) := s2
          have HS3 : Hid (PtsAt (wr.setCell ⟨w.heap.size, k, none⟩ (.bool true)) (w.heap.size + 1 + 1) (fun _ => false)) := s3
          have HS4 : Hid (Below w.heap.size w (wr.setCell ⟨w.heap.size, k, none⟩ (.bool true))) := s4
          clear s1 s2 s3 s4 HS hf hg
          go_wp2_with fail
          go_roundw
          case rel => exact ⟨k + 1, by omega, by go_num, HS1.out, HS2.out, HS3.out, HS4.out⟩
          case measure => simp [intOf]; omega
      | false =>
        rw [hf] at c1
        cases hg : g k with
        | true =>
          rw [hg] at c2
          obtain ⟨s1, s2, s3, s4⟩ := HS.out true (by simp [hf, hg])
          have HS1 : Hid (PtsAt (wr.setCell ⟨w.heap.size, k, none⟩ (.bool true)) w.heap.size (mixN (fun q => f q || g q) f (k + 1))) := s1
          have HS2 : Hid (PtsAt (wr.setCell ⟨w.heap.size, k, none⟩ (.bool true)) (w.heap.size + 1) g) := s2
          have HS3 : Hid (PtsAt (wr.setCell ⟨w.heap.size, k, none⟩ (.bool true)) (w.heap.size + 1 + 1) (fun _ => false)) := s3
          have HS4 : Hid (Below w.heap.size w (wr.setCell ⟨w.heap.size, k, none⟩ (.bool true))) := s4
          clear s1 s2 s3 s4 HS hf hg
          go_wp2_with fail
          go_roundw
          case rel => exact ⟨k + 1, by omega, by go_num, HS1.out, HS2.out, HS3.out, HS4.out⟩
          case measure => simp [intOf]; omega
        | false =>
          rw [hg] at c2
          obtain ⟨s1, s2, s3, s4⟩ := HS.out false (by simp [hf, hg])
          have HS1 : Hid (PtsAt (wr.setCell ⟨w.heap.size, k, none⟩ (.bool false)) w.heap.size (mixN (fun q => f q || g q) f (k + 1))) := s1
          have HS2 : Hid (PtsAt (wr.setCell ⟨w.heap.size, k, none⟩ (.bool false)) (w.heap.size + 1) g) := s2
          have HS3 : Hid (PtsAt (wr.setCell ⟨w.heap.size, k, none⟩ (.bool false)) (w.heap.size + 1 + 1) (fun _ => false)) := s3
          have HS4 : Hid (Below w.heap.size w (wr.setCell ⟨w.heap.size, k, none⟩ (.bool false))) := s4
          clear s1 s2 s3 s4 HS hf hg
          go_wp2_with fail
          go_roundw
          case rel => exact ⟨k + 1, by omega, by go_num, HS1.out, HS2.out, HS3.out, HS4.out⟩
          case measure => simp [intOf]; omega
    · obtain rfl : k = 256 := by omega
      have HP' : Hid (PtsAt wr w.heap.size (fun q => f q || g q)) := HP.out.ext (fun i hi => by simp [mixN, hi])
      go_wp2_with (first | (refine wpList_load_pts (b := w.heap.size) (f := fun q => f q || g q) (by rfl) (.tmp 4) (by rfl) (by rfl) (by exact HP'.out) ?_) | (refine wpList_store_pts (b := w.heap.size + 1 + 1) (g := fun q => f q || g q) (by rfl) (.tmp 6) (.tmp 50) (by rfl) (by rfl) (by rfl) (by rfl) (by exact HQ.out) ?_))
      exact bodyPost_ret (v := .agg (ptsV fun q => f q || g q)) (ret_pts rfl (by rfl) (HQ.out.setRow _)) rfl ⟨rfl, HB.out.trans (below_setRow _ _ _ _ (by omega))⟩
set_option maxHeartbeats 1000000 in
theorem madeMeet_any {f g : Nat → Bool} (w : World) :
    Calls Try.prog 12 #[.int .i64 5, .agg (ptsV f), .agg (ptsV g)] w fun e w' => e = .returned (.agg (ptsV fun q => f q && g q)) ∧ Below w.heap.size w w' := by
  have hz := pts_zero.1
  go_enter Try.func12, Try.ntmps12
  go_wp2_with fail
  obtain ⟨W0, hW0⟩ : ∃ W0, ((w.alloc (Obj.cells (ptsV f) 33)).alloc (Obj.cells (ptsV g) 33)).alloc (Obj.cells (ptsV fun _ => false) 33) = W0 := ⟨_, rfl⟩
  have HP0 : Hid (PtsAt W0 w.heap.size f) := hW0 ▸ ((PtsAt.new w f).alloc _).alloc _
  have HG0 : Hid (PtsAt W0 (w.heap.size + 1) g) := show PtsAt W0 (w.heap.size + 1) g by
    have := (PtsAt.new (w.alloc (Obj.cells (ptsV f) 33)) g).alloc (Obj.cells (ptsV fun _ => false) 33)
    rw [hW0] at this
    simpa using this
  have HQ0 : Hid (PtsAt W0 (w.heap.size + 1 + 1) (fun _ => false)) := show PtsAt W0 (w.heap.size + 1 + 1) (fun _ => false) by
    have := PtsAt.new ((w.alloc (Obj.cells (ptsV f) 33)).alloc (Obj.cells (ptsV g) 33)) (fun _ => false)
    rw [hW0] at this
    simpa using this
  have HB0 : Hid (Below w.heap.size w W0) := hW0 ▸ (((Below.refl _ _).alloc (Nat.le_refl _) _).alloc (by simp) _).alloc (by simp; omega) _
  rw [hW0]
  clear hW0
  go_loopw [7] (fun i wr => ∃ k : Nat, k ≤ 256 ∧ i = .int .i64 (k : Int) ∧ Hid (PtsAt wr w.heap.size (mixN (fun q => f q && g q) f k)) ∧ Hid (PtsAt wr (w.heap.size + 1) g) ∧ Hid (PtsAt wr (w.heap.size + 1 + 1) (fun _ => false)) ∧ Hid (Below w.heap.size w wr)) (fun i _ => 256 - (intOf i).toNat)
  case atStart => exact ⟨0, by omega, rfl, HP0.out.ext (fun i _ => by simp [mixN]), HG0.out, HQ0.out, HB0.out⟩
  case round =>
    obtain ⟨k, hk, rfl, HP, HG, HQ, HB⟩ := hrel
    by_cases hlt : k < 256
    · have hd : decide ((k : Int) < 256) = true := decide_eq_true (by omega)
      have k256 : (k : Int) < 256 := by omega
      have hfr := HP.out.free k
      have c1 := HP.out.cell (p := k) hlt
      have c2 := HG.out.cell (p := k) hlt
      have HS : Hid (∀ b, b = (fun q => f q && g q) k → PtsAt (wr.setCell ⟨w.heap.size, k, none⟩ (.bool b)) w.heap.size (mixN (fun q => f q && g q) f (k + 1)) ∧ PtsAt (wr.setCell ⟨w.heap.size, k, none⟩ (.bool b)) (w.heap.size + 1) g ∧ PtsAt (wr.setCell ⟨w.heap.size, k, none⟩ (.bool b)) (w.heap.size + 1 + 1) (fun _ => false) ∧ Below w.heap.size w (wr.setCell ⟨w.heap.size, k, none⟩ (.bool b))) := fun b hb => ⟨(HP.out.set hlt b).ext (fun i _ => by
        simp only [setF, mixN]
        by_cases e : i = k
        · subst e
          rw [if_pos rfl, if_pos (by omega)]
          exact hb
        · rw [if_neg e]
          by_cases e2 : i < k
          · rw [if_pos e2, if_pos (by omega)]
          · rw [if_neg e2, if_neg (by omega)]), HG.out.other (by omega), HQ.out.other (by omega), HB.out.setCell (p := ⟨w.heap.size, k, none⟩) (Nat.le_refl _) _⟩
      rw [show mixN (fun q => f q && g q) f k k = f k by simp [mixN]] at c1
      cases hf : f k with
      | true =>
        rw [hf] at c1
        cases hg : g k with
        | true =>
          rw [hg] at c2
          obtain ⟨s1, s2, s3, s4⟩ := HS.out true (by simp [hf, hg])
          have HS1 : Hid (PtsAt (wr.setCell ⟨w.heap.size, k, none⟩ (.bool true)) w.heap.size (mixN (fun q => f q && g q) f (k + 1))) := s1
          have HS2 : Hid (PtsAt (wr.setCell ⟨w.heap.size, k, none⟩ (.bool true)) (w.heap.size + 1) g) := s2
          have HS3 : Hid (PtsAt (wr.setCell ⟨w.heap.size, k, none⟩ (.bool true)) (w.heap.size + 1 + 1) (fun _ => false)) := s3
          have HS4 : Hid (Below w.heap.size w (wr.setCell ⟨w.heap.size, k, none⟩ (.bool true))) := s4
          clear s1 s2 s3 s4 HS hf hg
          go_wp2_with fail
          go_roundw
          case rel => exact ⟨k + 1, by omega, by go_num, HS1.out, HS2.out, HS3.out, HS4.out⟩
          case measure => simp [intOf]; omega
        | false =>
          rw [hg] at c2
          obtain ⟨s1, s2, s3, s4⟩ := HS.out false (by simp [hf, hg])
          have HS1 : Hid (PtsAt (wr.setCell ⟨w.heap.size, k, none⟩ (.bool false)) w.heap.size (mixN (fun q => f q && g q) f (k + 1))) := s1
          have HS2 : Hid (PtsAt (wr.setCell ⟨w.heap.size, k, none⟩ (.bool false)) (w.heap.size + 1) g) := s2
          have HS3 : Hid (PtsAt (wr.setCell ⟨w.heap.size, k, none⟩ (.bool false)) (w.heap.size + 1 + 1) (fun _ => false)) := s3
          have HS4 : Hid (Below w.heap.size w (wr.setCell ⟨w.heap.size, k, none⟩ (.bool false))) := s4
          clear s1 s2 s3 s4 HS hf hg
          go_wp2_with fail
          go_roundw
          case rel => exact ⟨k + 1, by omega, by go_num, HS1.out, HS2.out, HS3.out, HS4.out⟩
          case measure => simp [intOf]; omega
      | false =>
        rw [hf] at c1
        cases hg : g k with
        | true =>
          rw [hg] at c2
          obtain ⟨s1, s2, s3, s4⟩ := HS.out false (by simp [hf, hg])
          have HS1 : Hid (PtsAt (wr.setCell ⟨w.heap.size, k, none⟩ (.bool false)) w.heap.size (mixN (fun q => f q && g q) f (k + 1))) := s1
          have HS2 : Hid (PtsAt (wr.setCell ⟨w.heap.size, k, none⟩ (.bool false)) (w.heap.size + 1) g) := s2
          have HS3 : Hid (PtsAt (wr.setCell ⟨w.heap.size, k, none⟩ (.bool false)) (w.heap.size + 1 + 1) (fun _ => false)) := s3
          have HS4 : Hid (Below w.heap.size w (wr.setCell ⟨w.heap.size, k, none⟩ (.bool false))) := s4
          clear s1 s2 s3 s4 HS hf hg
          go_wp2_with fail
          go_roundw
          case rel => exact ⟨k + 1, by omega, by go_num, HS1.out, HS2.out, HS3.out, HS4.out⟩
          case measure => simp [intOf]; omega
        | false =>
          rw [hg] at c2
          obtain ⟨s1, s2, s3, s4⟩ := HS.out false (by simp [hf, hg])
          have HS1 : Hid (PtsAt (wr.setCell ⟨w.heap.size, k, none⟩ (.bool false)) w.heap.size (mixN (fun q => f q && g q) f (k + 1))) := s1
          have HS2 : Hid (PtsAt (wr.setCell ⟨w.heap.size, k, none⟩ (.bool false)) (w.heap.size + 1) g) := s2
          have HS3 : Hid (PtsAt (wr.setCell ⟨w.heap.size, k, none⟩ (.bool false)) (w.heap.size + 1 + 1) (fun _ => false)) := s3
          have HS4 : Hid (Below w.heap.size w (wr.setCell ⟨w.heap.size, k, none⟩ (.bool false))) := s4
          clear s1 s2 s3 s4 HS hf hg
          go_wp2_with fail
          go_roundw
          case rel => exact ⟨k + 1, by omega, by go_num, HS1.out, HS2.out, HS3.out, HS4.out⟩
          case measure => simp [intOf]; omega
    · obtain rfl : k = 256 := by omega
      have HP' : Hid (PtsAt wr w.heap.size (fun q => f q && g q)) := HP.out.ext (fun i hi => by simp [mixN, hi])
      go_wp2_with (first | (refine wpList_load_pts (b := w.heap.size) (f := fun q => f q && g q) (by rfl) (.tmp 4) (by rfl) (by rfl) (by exact HP'.out) ?_) | (refine wpList_store_pts (b := w.heap.size + 1 + 1) (g := fun q => f q && g q) (by rfl) (.tmp 6) (.tmp 50) (by rfl) (by rfl) (by rfl) (by rfl) (by exact HQ.out) ?_))
      exact bodyPost_ret (v := .agg (ptsV fun q => f q && g q)) (ret_pts rfl (by rfl) (HQ.out.setRow _)) rfl ⟨rfl, HB.out.trans (below_setRow _ _ _ _ (by omega))⟩
set_option maxHeartbeats 1000000 in
theorem madeLess_any {f g : Nat → Bool} (w : World) :
    Calls Try.prog 12 #[.int .i64 6, .agg (ptsV f), .agg (ptsV g)] w fun e w' => e = .returned (.agg (ptsV fun q => f q && !g q)) ∧ Below w.heap.size w w' := by
  have hz := pts_zero.1
  go_enter Try.func12, Try.ntmps12
  go_wp2_with fail
  obtain ⟨W0, hW0⟩ : ∃ W0, ((w.alloc (Obj.cells (ptsV f) 33)).alloc (Obj.cells (ptsV g) 33)).alloc (Obj.cells (ptsV fun _ => false) 33) = W0 := ⟨_, rfl⟩
  have HP0 : Hid (PtsAt W0 w.heap.size f) := hW0 ▸ ((PtsAt.new w f).alloc _).alloc _
  have HG0 : Hid (PtsAt W0 (w.heap.size + 1) g) := show PtsAt W0 (w.heap.size + 1) g by
    have := (PtsAt.new (w.alloc (Obj.cells (ptsV f) 33)) g).alloc (Obj.cells (ptsV fun _ => false) 33)
    rw [hW0] at this
    simpa using this
  have HQ0 : Hid (PtsAt W0 (w.heap.size + 1 + 1) (fun _ => false)) := show PtsAt W0 (w.heap.size + 1 + 1) (fun _ => false) by
    have := PtsAt.new ((w.alloc (Obj.cells (ptsV f) 33)).alloc (Obj.cells (ptsV g) 33)) (fun _ => false)
    rw [hW0] at this
    simpa using this
  have HB0 : Hid (Below w.heap.size w W0) := hW0 ▸ (((Below.refl _ _).alloc (Nat.le_refl _) _).alloc (by simp) _).alloc (by simp; omega) _
  rw [hW0]
  clear hW0
  go_loopw [7] (fun i wr => ∃ k : Nat, k ≤ 256 ∧ i = .int .i64 (k : Int) ∧ Hid (PtsAt wr w.heap.size (mixN (fun q => f q && !g q) f k)) ∧ Hid (PtsAt wr (w.heap.size + 1) g) ∧ Hid (PtsAt wr (w.heap.size + 1 + 1) (fun _ => false)) ∧ Hid (Below w.heap.size w wr)) (fun i _ => 256 - (intOf i).toNat)
  case atStart => exact ⟨0, by omega, rfl, HP0.out.ext (fun i _ => by simp [mixN]), HG0.out, HQ0.out, HB0.out⟩
  case round =>
    obtain ⟨k, hk, rfl, HP, HG, HQ, HB⟩ := hrel
    by_cases hlt : k < 256
    · have hd : decide ((k : Int) < 256) = true := decide_eq_true (by omega)
      have k256 : (k : Int) < 256 := by omega
      have hfr := HP.out.free k
      have c1 := HP.out.cell (p := k) hlt
      have c2 := HG.out.cell (p := k) hlt
      have HS : Hid (∀ b, b = (fun q => f q && !g q) k → PtsAt (wr.setCell ⟨w.heap.size, k, none⟩ (.bool b)) w.heap.size (mixN (fun q => f q && !g q) f (k + 1)) ∧ PtsAt (wr.setCell ⟨w.heap.size, k, none⟩ (.bool b)) (w.heap.size + 1) g ∧ PtsAt (wr.setCell ⟨w.heap.size, k, none⟩ (.bool b)) (w.heap.size + 1 + 1) (fun _ => false) ∧ Below w.heap.size w (wr.setCell ⟨w.heap.size, k, none⟩ (.bool b))) := fun b hb => ⟨(HP.out.set hlt b).ext (fun i _ => by
        simp only [setF, mixN]
        by_cases e : i = k
        · subst e
          rw [if_pos rfl, if_pos (by omega)]
          exact hb
        · rw [if_neg e]
          by_cases e2 : i < k
          · rw [if_pos e2, if_pos (by omega)]
          · rw [if_neg e2, if_neg (by omega)]), HG.out.other (by omega), HQ.out.other (by omega), HB.out.setCell (p := ⟨w.heap.size, k, none⟩) (Nat.le_refl _) _⟩
      rw [show mixN (fun q => f q && !g q) f k k = f k by simp [mixN]] at c1
      cases hf : f k with
      | true =>
        rw [hf] at c1
        cases hg : g k with
        | true =>
          rw [hg] at c2
          obtain ⟨s1, s2, s3, s4⟩ := HS.out false (by simp [hf, hg])
          have HS1 : Hid (PtsAt (wr.setCell ⟨w.heap.size, k, none⟩ (.bool false)) w.heap.size (mixN (fun q => f q && !g q) f (k + 1))) := s1
          have HS2 : Hid (PtsAt (wr.setCell ⟨w.heap.size, k, none⟩ (.bool false)) (w.heap.size + 1) g) := s2
          have HS3 : Hid (PtsAt (wr.setCell ⟨w.heap.size, k, none⟩ (.bool false)) (w.heap.size + 1 + 1) (fun _ => false)) := s3
          have HS4 : Hid (Below w.heap.size w (wr.setCell ⟨w.heap.size, k, none⟩ (.bool false))) := s4
          clear s1 s2 s3 s4 HS hf hg
          go_wp2_with fail
          go_roundw
          case rel => exact ⟨k + 1, by omega, by go_num, HS1.out, HS2.out, HS3.out, HS4.out⟩
          case measure => simp [intOf]; omega
        | false =>
          rw [hg] at c2
          obtain ⟨s1, s2, s3, s4⟩ := HS.out true (by simp [hf, hg])
          have HS1 : Hid (PtsAt (wr.setCell ⟨w.heap.size, k, none⟩ (.bool true)) w.heap.size (mixN (fun q => f q && !g q) f (k + 1))) := s1
          have HS2 : Hid (PtsAt (wr.setCell ⟨w.heap.size, k, none⟩ (.bool true)) (w.heap.size + 1) g) := s2
          have HS3 : Hid (PtsAt (wr.setCell ⟨w.heap.size, k, none⟩ (.bool true)) (w.heap.size + 1 + 1) (fun _ => false)) := s3
          have HS4 : Hid (Below w.heap.size w (wr.setCell ⟨w.heap.size, k, none⟩ (.bool true))) := s4
          clear s1 s2 s3 s4 HS hf hg
          go_wp2_with fail
          go_roundw
          case rel => exact ⟨k + 1, by omega, by go_num, HS1.out, HS2.out, HS3.out, HS4.out⟩
          case measure => simp [intOf]; omega
      | false =>
        rw [hf] at c1
        cases hg : g k with
        | true =>
          rw [hg] at c2
          obtain ⟨s1, s2, s3, s4⟩ := HS.out false (by simp [hf, hg])
          have HS1 : Hid (PtsAt (wr.setCell ⟨w.heap.size, k, none⟩ (.bool false)) w.heap.size (mixN (fun q => f q && !g q) f (k + 1))) := s1
          have HS2 : Hid (PtsAt (wr.setCell ⟨w.heap.size, k, none⟩ (.bool false)) (w.heap.size + 1) g) := s2
          have HS3 : Hid (PtsAt (wr.setCell ⟨w.heap.size, k, none⟩ (.bool false)) (w.heap.size + 1 + 1) (fun _ => false)) := s3
          have HS4 : Hid (Below w.heap.size w (wr.setCell ⟨w.heap.size, k, none⟩ (.bool false))) := s4
          clear s1 s2 s3 s4 HS hf hg
          go_wp2_with fail
          go_roundw
          case rel => exact ⟨k + 1, by omega, by go_num, HS1.out, HS2.out, HS3.out, HS4.out⟩
          case measure => simp [intOf]; omega
        | false =>
          rw [hg] at c2
          obtain ⟨s1, s2, s3, s4⟩ := HS.out false (by simp [hf, hg])
          have HS1 : Hid (PtsAt (wr.setCell ⟨w.heap.size, k, none⟩ (.bool false)) w.heap.size (mixN (fun q => f q && !g q) f (k + 1))) := s1
          have HS2 : Hid (PtsAt (wr.setCell ⟨w.heap.size, k, none⟩ (.bool false)) (w.heap.size + 1) g) := s2
          have HS3 : Hid (PtsAt (wr.setCell ⟨w.heap.size, k, none⟩ (.bool false)) (w.heap.size + 1 + 1) (fun _ => false)) := s3
          have HS4 : Hid (Below w.heap.size w (wr.setCell ⟨w.heap.size, k, none⟩ (.bool false))) := s4
          clear s1 s2 s3 s4 HS hf hg
          go_wp2_with fail
          go_roundw
          case rel => exact ⟨k + 1, by omega, by go_num, HS1.out, HS2.out, HS3.out, HS4.out⟩
          case measure => simp [intOf]; omega
    · obtain rfl : k = 256 := by omega
      have HP' : Hid (PtsAt wr w.heap.size (fun q => f q && !g q)) := HP.out.ext (fun i hi => by simp [mixN, hi])
      go_wp2_with (first | (refine wpList_load_pts (b := w.heap.size) (f := fun q => f q && !g q) (by rfl) (.tmp 4) (by rfl) (by rfl) (by exact HP'.out) ?_) | (refine wpList_store_pts (b := w.heap.size + 1 + 1) (g := fun q => f q && !g q) (by rfl) (.tmp 6) (.tmp 50) (by rfl) (by rfl) (by rfl) (by rfl) (by exact HQ.out) ?_))
      exact bodyPost_ret (v := .agg (ptsV fun q => f q && !g q)) (ret_pts rfl (by rfl) (HQ.out.setRow _)) rfl ⟨rfl, HB.out.trans (below_setRow _ _ _ _ (by omega))⟩
end Go.Proofs.Ytogcpogoamoljaa
