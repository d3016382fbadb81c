import Derived.Test.YtddgoncbdlhhhaaGreatR03
/- fill: one value laid over pages. Own work. -/
namespace Go.Proofs.YtddgoncbdlhhhaaGreat
open Go.RowKit Go.Maps
set_option maxRecDepth 100000 in
set_option maxHeartbeats 4000000 in
theorem repeat_zero {w : World} {b : Nat} : Calls Tryz.prog 90 #[.slice (some ⟨b, 0, none⟩) 1 1, .int .i64 0] w fun e w' => ∃ v, e = .returned v ∧ Below w.heap.size w w' := by
  go_enter Tryz.func90, Tryz.ntmps90
  go_wp2_with fail
  go_ret
  exact ⟨_, rfl, (Below.refl _ _).alloc (Nat.le_refl _) _⟩
def FillAt (w wr : World) (B : Nat) (T : Nat → Option Nat) (M : Nat → Nat) (a z g C i : Nat) : Prop :=
  ∃ T', Held wr B T' (putAt M a (List.replicate i z)) ∧ Keeps (Foot B T) w wr ∧ Grows w.heap.size T T' ∧ Sl wr (.slice (some ⟨g, 0, none⟩) C C) (List.replicate C z)
theorem sl_lt {w : World} {g C z : Nat} (h : Sl w (.slice (some ⟨g, 0, none⟩) C C) (List.replicate C z)) (hC : 0 < C) : g < w.heap.size := by
  obtain ⟨ao, cap, e, _, _, _, _, h5⟩ := h
  obtain ⟨b, o, e2, hc⟩ := h5 0 (by rw [List.length_replicate]; exact hC)
  injection e with e1
  rw [e2] at e1
  injection e1 with e1
  injection e1 with e1
  rw [e1]
  simp only [World.cell?] at hc
  cases hq : w.heap[b]? with
  | none => simp [hq] at hc
  | some ob => exact (Array.getElem?_eq_some_iff.1 hq).1
theorem fill_step {w wr : World} {B : Nat} {T : Nat → Option Nat} {M : Nat → Nat} {a z g C i n : Nat} (h : FillAt w wr B T M a z g C i) (ha : a + i < 4294967296) (hn : n ≤ C) (hpg : (a + i) % 4096 + n ≤ 4096) (hb : ¬ Foot B T g) (hbw : g < w.heap.size) :
    Calls Tryz.prog 88 #[.map (some B), .int .u64 ((a + i : Nat) : Int), .slice (some ⟨g, 0, none⟩) n C] wr fun e w' => e = .returned (.tuple #[]) ∧ Hid (FillAt w w' B T M a z g C (i + n)) := by
  obtain ⟨T', hH, hK, hG, hS⟩ := h
  have hl : (List.replicate C z).length = C := List.length_replicate
  have hS' : Sl wr (.slice (some ⟨g, 0, none⟩) n C) ((List.replicate C z).take n) := by
    have h0 : Sl wr (.slice (some ⟨g, 0, none⟩) (List.replicate C z).length C) (List.replicate C z) := by rw [hl]; exact hS
    exact h0.front n (by rw [hl]; exact hn)
  have e1 : (List.replicate C z).take n = List.replicate n z := by rw [List.take_replicate, Nat.min_eq_left hn]
  rw [e1] at hS'
  have hbf : ¬ Foot B T' g := fun hf => hb (hG.foot hf hbw)
  have htl : (List.replicate n z).length = n := List.length_replicate
  refine (layWithin_any hH (a := a + i) (by omega) hS' htl.symm (by rw [htl]; exact hpg) (Nat.lt_of_lt_of_le hbw hK.size) (fun e => hbf (.inl e))).mono ?_
  rintro e w' ⟨rfl, T2, h2, k2, g2⟩
  refine ⟨rfl, T2, ?_, hK.trans k2 (fun j hj hf => hG.foot hf hj), hG.trans g2 hK.size, hS.keeps k2 (fun j e => by cases e; exact hbf)⟩
  have e2 : a + i = a + (List.replicate i z).length := by rw [List.length_replicate]
  rw [e2, putAt_append, List.replicate_append_replicate] at h2
  exact h2
set_option maxRecDepth 100000 in
set_option maxHeartbeats 4000000 in
theorem fill_any {w : World} {B : Nat} {T : Nat → Option Nat} {M : Nat → Nat} {a z N : Nat} (h : Held w B T M) (ha : a + N ≤ 4294967296) (hz : z < 256) (hN : 0 < N) :
    Calls Tryz.prog 61 #[.map (some B), .int .u64 (a : Int), .int .i64 (N : Int), .int .u8 (z : Int)] w (LaidPost w B T (putAt M a (List.replicate N z))) := by
  obtain ⟨C, hC⟩ : ∃ C, C = min N 4096 := ⟨_, rfl⟩
  have hC1 : 0 < C ∧ C ≤ 4096 := by omega
  have HH : Hid (Held w B T M) := h
  have HR : Hid (∀ W b, RowT W 5 b [z] → Calls Tryz.prog 90 #[.slice (some ⟨b, 0, none⟩) 1 1, .int .i64 (C : Int)] W fun e w' => ∃ g, e = .returned (.slice (some ⟨g, 0, none⟩) C C) ∧ W.heap.size ≤ g ∧ Below W.heap.size W w' ∧ Sl w' (.slice (some ⟨g, 0, none⟩) C C) (List.replicate C z)) := fun W b hb => repeat_any hb hz hC1
  have HC : Hid (C = min N 4096) := hC
  clear h hC
  by_cases hle : N ≤ 4096
  · obtain rfl : C = N := by have := HC.out; omega
    have HR' := HR.out (w.alloc (Obj.cells #[.int .u8 (z : Int)] 5)) w.heap.size (heap_alloc_new w _)
    clear HR
    go_enter Tryz.func61, Tryz.ntmps61
    go_wp2_with fail
    refine HR'.mono ?_
    rintro e w1 ⟨g, rfl, hg1, hb1, hs1⟩
    have HB1 : Hid (Below w.heap.size w w1) := ((Below.refl _ _).alloc (Nat.le_refl _) _).trans (hb1.mono (by simp))
    have HF : Hid (¬ Foot B T g ∧ g < w1.heap.size) := ⟨fun hf => by have := HH.out.foot_lt hf; simp at hg1; omega, sl_lt hs1 hC1.1⟩
    have HA : Hid (FillAt w1 w1 B T M a z g C 0) := ⟨T, by rw [List.replicate_zero, putAt_nil]; exact HH.out.below HB1.out, Keeps.refl _ _, Grows.refl _ _, hs1⟩
    clear hb1 hs1 hg1 HR'
    go_wp2_with fail
    go_loopw [1, 2] (fun x y wr => ∃ i m : Nat, i ≤ C ∧ Hid (m = C - i) ∧ m ≤ C ∧ x = .int .u64 ((a + i : Nat) : Int) ∧ y = .int .i64 (m : Int) ∧ Hid (FillAt w1 wr B T M a z g C i)) (fun _ y _ => match y with | .int _ m => m.toNat | _ => 0)
    case atStart => exact ⟨0, C, by omega, (rfl : _ = _), by omega, rfl, rfl, HA⟩
    case round =>
      clear HA
      obtain ⟨i, m, hi, HM, hmN, rfl, rfl, HA⟩ := hrel
      by_cases hlt : 0 < m
      · obtain ⟨n, hn⟩ : ∃ n, n = min m (4096 - (a + i) % 4096) := ⟨_, rfl⟩
        have HW : Hid (Calls Tryz.prog 84 #[.int .u64 ((a + i : Nat) : Int), .int .i64 (m : Int)] wr fun e w' => e = .returned (.int .i64 (n : Int)) ∧ w' = wr) := by rw [hn]; exact within_any (by omega) wr
        have n1 : n ≤ m := by omega
        have n2 : 0 < n := by omega
        have n3 : n ≤ C := by omega
        have HS : Hid (Calls Tryz.prog 88 #[.map (some B), .int .u64 ((a + i : Nat) : Int), .slice (some ⟨g, 0, none⟩) n C] wr fun e w' => e = .returned (.tuple #[]) ∧ Hid (FillAt w1 w' B T M a z g C (i + n))) := fill_step HA.out (by have := HM.out; omega) n3 (by omega) HF.out.1 HF.out.2
        have hab : a + i + n ≤ 4294967296 := by have := HM.out; omega
        have hnm : i + n ≤ C := by have := HM.out; omega
        clear hn
        go_wp2_with (first | (go_at_call 84; refine HW.out.mono ?_; rintro e w' ⟨rfl, hw⟩; have hw := hw.symm; subst hw) | (go_at_call 88; refine HS.out.mono ?_; rintro e w2 ⟨rfl, HS2⟩))
        go_roundw
        case rel => exact ⟨i + n, m - n, hnm, (by have := HM.out; omega : _ = _), by omega, by go_num, by go_num, HS2⟩
        case measure => simp; omega
      · have HE : Hid (i = C) := (by have := HM.out; omega : i = C)
        go_wp2_with fail
        go_end0
        obtain ⟨T', h1, h2, h3, _⟩ := HA.out
        rw [HE.out] at h1
        exact ⟨rfl, T', h1, (Keeps.of_below (S := Foot B T) HB1.out).trans h2 (fun _ _ h => h), fun k g e => (h3 k g e).imp id (Nat.le_trans HB1.out.size)⟩
  · obtain rfl : C = 4096 := by have := HC.out; omega
    have HR' := HR.out (w.alloc (Obj.cells #[.int .u8 (z : Int)] 5)) w.heap.size (heap_alloc_new w _)
    clear HR
    go_enter Tryz.func61, Tryz.ntmps61
    go_wp2_with fail
    refine HR'.mono ?_
    rintro e w1 ⟨g, rfl, hg1, hb1, hs1⟩
    have HB1 : Hid (Below w.heap.size w w1) := ((Below.refl _ _).alloc (Nat.le_refl _) _).trans (hb1.mono (by simp))
    have HF : Hid (¬ Foot B T g ∧ g < w1.heap.size) := ⟨fun hf => by have := HH.out.foot_lt hf; simp at hg1; omega, sl_lt hs1 hC1.1⟩
    have HA : Hid (FillAt w1 w1 B T M a z g 4096 0) := ⟨T, by rw [List.replicate_zero, putAt_nil]; exact HH.out.below HB1.out, Keeps.refl _ _, Grows.refl _ _, hs1⟩
    clear hb1 hs1 hg1 HR'
    go_wp2_with fail
    go_loopw [1, 2] (fun x y wr => ∃ i m : Nat, i ≤ N ∧ Hid (m = N - i) ∧ m ≤ N ∧ x = .int .u64 ((a + i : Nat) : Int) ∧ y = .int .i64 (m : Int) ∧ Hid (FillAt w1 wr B T M a z g 4096 i)) (fun _ y _ => match y with | .int _ m => m.toNat | _ => 0)
    case atStart => exact ⟨0, N, by omega, (rfl : _ = _), by omega, rfl, rfl, HA⟩
    case round =>
      clear HA
      obtain ⟨i, m, hi, HM, hmN, rfl, rfl, HA⟩ := hrel
      by_cases hlt : 0 < m
      · obtain ⟨n, hn⟩ : ∃ n, n = min m (4096 - (a + i) % 4096) := ⟨_, rfl⟩
        have HW : Hid (Calls Tryz.prog 84 #[.int .u64 ((a + i : Nat) : Int), .int .i64 (m : Int)] wr fun e w' => e = .returned (.int .i64 (n : Int)) ∧ w' = wr) := by rw [hn]; exact within_any (by omega) wr
        have n1 : n ≤ m := by omega
        have n2 : 0 < n := by omega
        have n3 : n ≤ 4096 := by omega
        have HS : Hid (Calls Tryz.prog 88 #[.map (some B), .int .u64 ((a + i : Nat) : Int), .slice (some ⟨g, 0, none⟩) n 4096] wr fun e w' => e = .returned (.tuple #[]) ∧ Hid (FillAt w1 w' B T M a z g 4096 (i + n))) := fill_step HA.out (by have := HM.out; omega) n3 (by omega) HF.out.1 HF.out.2
        have hab : a + i + n ≤ 4294967296 := by have := HM.out; omega
        have hnm : i + n ≤ N := by have := HM.out; omega
        clear hn
        go_wp2_with (first | (go_at_call 84; refine HW.out.mono ?_; rintro e w' ⟨rfl, hw⟩; have hw := hw.symm; subst hw) | (go_at_call 88; refine HS.out.mono ?_; rintro e w2 ⟨rfl, HS2⟩))
        go_roundw
        case rel => exact ⟨i + n, m - n, hnm, (by have := HM.out; omega : _ = _), by omega, by go_num, by go_num, HS2⟩
        case measure => simp; omega
      · have HE : Hid (i = N) := (by have := HM.out; omega : i = N)
        go_wp2_with fail
        go_end0
        obtain ⟨T', h1, h2, h3, _⟩ := HA.out
        rw [HE.out] at h1
        exact ⟨rfl, T', h1, (Keeps.of_below (S := Foot B T) HB1.out).trans h2 (fun _ _ h => h), fun k g e => (h3 k g e).imp id (Nat.le_trans HB1.out.size)⟩
end Go.Proofs.YtddgoncbdlhhhaaGreat
