/- made: the machine of a bus, or none. Own work. -/
import Derived.Test.YtmaahompmgmkfaaRgMade
namespace Go.Proofs.Ytmaahompmgmkfaa
open Go.RowKit Go.Maps Go.Proofs.Ytmaahompmgmkfaa.Sp
/-- a row of ranges of which only its length is known -/
def RowN (w : World) (g n : Nat) : Prop := ∃ L : List Sp, L.length = n ∧ RowR w g L
theorem RowN.keeps {Z : Nat → Prop} {w w' : World} {g n : Nat} (h : RowN w g n) (hk : Keeps Z w w') (hn : ¬ Z g) : RowN w' g n := h.imp fun _ h => ⟨h.1, h.2.keeps hk hn⟩
theorem RowN.set {w : World} {g n : Nat} (h : RowN w g n) (j : Nat) (hj : j < n) (x y : Int) : RowN ((w.setCell ⟨g, j * 2, none⟩ (.int .u64 x)).setCell ⟨g, j * 2 + 1, none⟩ (.int .u64 y)) g n := by
  obtain ⟨L, h1, h2⟩ := h
  exact ⟨L.set j (x, y), by rw [List.length_set]; exact h1, h2.set j (by omega) (x, y)⟩
theorem RowN.some {w : World} {g n : Nat} (h : RowN w g n) (j : Nat) (hj : j < n) : ∃ p q, w.cell? ⟨g, j * 2, none⟩ = some (.int .u64 p) ∧ w.cell? ⟨g, j * 2 + 1, none⟩ = some (.int .u64 q) ∧ w.frozen? ⟨g, j * 2, none⟩ = false ∧ w.frozen? ⟨g, j * 2 + 1, none⟩ = false := by
  obtain ⟨L, h1, h2⟩ := h
  exact ⟨_, _, h2.cell0 j (by omega), h2.cell1 j (by omega), by simp [World.frozen?, show w.heap[g]? = _ from h2], by simp [World.frozen?, show w.heap[g]? = _ from h2]⟩
theorem Keeps.two2 (w : World) (g i j : Nat) (u v : Value) : Keeps (fun k => k = g) w ((w.setCell ⟨g, i, none⟩ u).setCell ⟨g, j, none⟩ v) :=
  (Keeps.setCell w g i u).trans (Keeps.setCell _ g j v) (fun _ _ e => e)
set_option maxRecDepth 100000 in
set_option maxHeartbeats 8000000 in
theorem made_any {w : World} {vr vd : Value} {rs ds : List Sp} (hr : U64.SV w vr rs) (hd : U64.SV w vd ds) (fr : Fits 18446744073709551615 rs) (fd : Fits 18446744073709551615 ds) (hl : rs.length ≤ 8796093022000) (hl2 : ds.length ≤ 8796093022000) :
    Calls Try.prog 5 #[.agg #[vr, vd]] w fun e w' => ∃ pm, e = .returned (.tuple #[.pointer pm, .bool true]) ∧ Hid (Below w.heap.size w w') ∧ Hid (MadeR w.heap.size w' pm rs ds) := by
  have HR : Hid (U64.SV w vr rs) := hr
  have HD : Hid (U64.SV w vd ds) := hd
  have HFr : Hid (Fits 18446744073709551615 rs) := fr
  have HFd : Hid (Fits 18446744073709551615 ds) := fd
  have HB0 : Hid (Below w.heap.size w (w.alloc (Obj.cells #[vr, vd] 24))) := (Below.refl _ _).alloc (Nat.le_refl _) _
  have HX0 : Hid (BoxB (w.alloc (Obj.cells #[vr, vd] 24)) w.heap.size vr vd) := heap_alloc_new w _
  have HHa := Lib.hid (handed_any (HR.out.below HB0.out (Nat.le_refl _)) (HD.out.below HB0.out (Nat.le_refl _)) hl hl2)
  have HIn1 : Hid (∀ W g, Below w.heap.size w W → RowR W g (roomR (5, 0) rs) → Calls Try.prog 17 #[.slice (some ⟨g, 0, none⟩) (rs.length + 80) (rs.length + 80), vr, .agg #[.int .u64 5, .int .u64 0]] W fun e w' => e = .returned (.bool true) ∧ Below W.heap.size W w') := fun W g hW hg => intactR_any (x0 := 5) (x1 := 0) hg (HR.out.below hW (Nat.le_refl _)) hl
  have HIn2 : Hid (∀ W g, Below w.heap.size w W → RowR W g (roomR (6, 0) ds) → Calls Try.prog 17 #[.slice (some ⟨g, 0, none⟩) (ds.length + 80) (ds.length + 80), vd, .agg #[.int .u64 6, .int .u64 0]] W fun e w' => e = .returned (.bool true) ∧ Below W.heap.size W w') := fun W g hW hg => intactR_any (x0 := 6) (x1 := 0) hg (HD.out.below hW (Nat.le_refl _)) hl2
  have HRf : Hid (∀ W, Below w.heap.size w W → Calls Try.prog 18 #[.agg #[vr, vd]] W fun e w' => e = .returned (.int .i64 (refW rs ds)) ∧ Below W.heap.size W w') := fun W hW => refuses_any (HR.out.below hW (Nat.le_refl _)) (HD.out.below hW (Nat.le_refl _)) HFr.out HFd.out
  clear hr hd fr fd
  go_enter Try.func5, Try.ntmps5
  go_wp2_with fail
  refine HHa.out.mono ?_
  rintro e w1 ⟨gx, gy, rfl, HRx, HRy, HG⟩
  have HB1 : Hid (Below (w.heap.size + 1) (w.alloc (Obj.cells #[vr, vd] 24)) w1) := HG.out.2.2.mono (by simp)
  have HBw1 : Hid (Below w.heap.size w w1) := HB0.out.trans (HB1.out.mono (Nat.le_succ _))
  have HX1 : Hid (BoxB w1 w.heap.size vr vd) := (HB1.out.block w.heap.size (Nat.lt_succ_self _)).trans HX0.out
  have HLt : Hid (w.heap.size + 1 ≤ gx ∧ gx < gy ∧ gy < w1.heap.size) := ⟨by have := HG.out.1; simp at this; exact this, HG.out.2.1, HRy.out.lt⟩
  have HNw : Hid (Calls Try.prog 16 #[.agg #[.slice (some ⟨gx, 0, none⟩) rs.length (rs.length + 80), .slice (some ⟨gy, 0, none⟩) ds.length (ds.length + 80)]] (w1.alloc (Obj.cells #[.slice (some ⟨gx, 0, none⟩) rs.length (rs.length + 80), .slice (some ⟨gy, 0, none⟩) ds.length (ds.length + 80)] 24)) fun e w' => ∃ pm, e = .returned (.tuple #[.pointer pm, .int .i64 (refW rs ds)]) ∧ Hid (Below w1.heap.size w1 w') ∧ Hid (MadeR w1.heap.size w' pm rs ds)) := by
    have hb : Below w1.heap.size w1 (w1.alloc (Obj.cells #[.slice (some ⟨gx, 0, none⟩) rs.length (rs.length + 80), .slice (some ⟨gy, 0, none⟩) ds.length (ds.length + 80)] 24)) := (Below.refl _ _).alloc (Nat.le_refl _) _
    have s1 := (HRx.out.below hb).sv (n := rs.length) (c := rs.length + 80) (by rw [roomR_len]; omega) (by omega) (by unfold maxLen; omega)
    have s2 := (HRy.out.below hb).sv (n := ds.length) (c := ds.length + 80) (by rw [roomR_len]; omega) (by omega) (by unfold maxLen; omega)
    rw [roomR, List.take_left] at s1 s2
    refine (new_any s1 s2 HFr.out HFd.out).mono ?_
    rintro e w' ⟨pm, rfl, hb', hm⟩
    exact ⟨pm, rfl, hb.trans (hb'.out.mono hb.size), hm.out.mono hb.size⟩
  clear HHa HG HB1
  obtain ⟨why, hwhy⟩ : ∃ why, refW rs ds = why := ⟨_, rfl⟩
  rw [hwhy] at HNw HRf
  have HWhy : Hid (refW rs ds = why) := hwhy
  clear hwhy
  go_wp2_with fail
  refine HNw.out.mono ?_
  rintro e w2 ⟨pm, rfl, HB2, HM2⟩
  have HBw2 : Hid (Below w.heap.size w w2) := HBw1.out.trans (HB2.out.mono HBw1.out.size)
  have HX2 : Hid (BoxB w2 w.heap.size vr vd) := HX1.out.below HB2.out
  obtain ⟨x0, x1, _, _⟩ := HX2.out.cells
  clear HNw
  go_wp2_with fail
  refine (HIn1.out _ gx HBw2.out (HRx.out.below HB2.out)).mono ?_
  rintro e w3 ⟨rfl, hb3⟩
  have HB3 : Hid (Below w2.heap.size w2 w3) := hb3
  have HBw3 : Hid (Below w.heap.size w w3) := HBw2.out.trans (hb3.mono HBw2.out.size)
  obtain ⟨x0, x1, _, _⟩ := (HX2.out.below hb3).cells
  clear hb3 HIn1
  go_wp2_with fail
  refine (HIn2.out _ gy HBw3.out ((HRy.out.below HB2.out).below HB3.out)).mono ?_
  rintro e w4 ⟨rfl, hb4⟩
  have HB14 : Hid (Below w1.heap.size w1 w4) := HB2.out.trans ((HB3.out.trans (hb4.mono HB3.out.size)).mono HB2.out.size)
  have HBw4 : Hid (Below w.heap.size w w4) := HBw3.out.trans (hb4.mono HBw3.out.size)
  have HX4 : Hid (BoxB w4 w.heap.size vr vd) := (HX2.out.below HB3.out).below hb4
  have HM4 : Hid (MadeR w1.heap.size w4 pm rs ds) := (HM2.out.below HB3.out).below hb4
  have HRx4 : Hid (RowN w4 gx (rs.length + 80)) := ⟨_, roomR_len _ _, HRx.out.below HB14.out⟩
  have HRy4 : Hid (RowN w4 gy (ds.length + 80)) := ⟨_, roomR_len _ _, HRy.out.below HB14.out⟩
  clear hb4 HIn2 HX2 HB3 HB2 HBw3 HBw2 HM2 HRx HRy HX1 HX0 HB0
  obtain ⟨N, hN⟩ : ∃ N, N = rs.length + 80 := ⟨_, rfl⟩
  obtain ⟨M, hM⟩ : ∃ M, M = ds.length + 80 := ⟨_, rfl⟩
  have n1 : N ≤ 8796093023000 := by omega
  have n2 : M ≤ 8796093023000 := by omega
  rw [← hN] at HRx4
  rw [← hM] at HRy4
  rw [← hN, ← hM]
  clear hN hM
  go_wp2_with fail
  go_loopw [10] (fun iv wr => ∃ k : Nat, k ≤ N ∧ iv = .int .i64 (k : Int) ∧ Hid (Keeps (fun j => j = gx) w4 wr) ∧ Hid (RowN wr gx N)) (fun iv _ => N - (intOf iv).toNat)
  case atStart => exact ⟨0, Nat.zero_le _, rfl, Keeps.refl _ _, HRx4⟩
  case round =>
    clear HRx4
    obtain ⟨k, hk, rfl, HK, HRx⟩ := hrel
    by_cases hlt : k < N
    · obtain ⟨p, q, d0, d1, f0, f1⟩ := HRx.out.some k hlt
      have ji : (k : Int) < (N : Int) := by omega
      go_wp2_with fail
      go_roundw
      case rel => exact ⟨k + 1, by omega, by go_num, HK.out.trans (Keeps.two2 _ _ _ _ _ _) (fun _ _ e => e), HRx.out.set k hlt 0 4096⟩
      case measure => simp [intOf]; omega
    · obtain rfl : k = N := by omega
      obtain ⟨w5, hw5⟩ : ∃ w5, w5 = wr := ⟨_, rfl⟩
      subst hw5
      have HRy5 : Hid (RowN w5 gy M) := HRy4.out.keeps HK.out (by have := HLt.out; omega)
      have HX5 : Hid (BoxB w5 w.heap.size vr vd) := HX4.out.keeps HK.out (by have := HLt.out; omega)
      have HM5 : Hid (MadeR w1.heap.size w5 pm rs ds) := HM4.out.keeps HK.out (fun j e => by have := HLt.out; omega)
      have HBw5 : Hid (Below w.heap.size w w5) := HBw4.out.trans (HK.out.below HBw4.out.size (fun i _ e => by have := HLt.out; omega))
      clear HRy4 HX4 HM4 HBw4 HK HRx hk hlt
      go_wp2_with fail
      go_loopw [11] (fun iv wr => ∃ k : Nat, k ≤ M ∧ iv = .int .i64 (k : Int) ∧ Hid (Keeps (fun j => j = gy) w5 wr) ∧ Hid (RowN wr gy M)) (fun iv _ => M - (intOf iv).toNat)
      case atStart => exact ⟨0, Nat.zero_le _, rfl, Keeps.refl _ _, HRy5⟩
      case round =>
        clear HRy5
        obtain ⟨k, hk, rfl, HK, HRy⟩ := hrel
        by_cases hlt : k < M
        · obtain ⟨p, q, d0, d1, f0, f1⟩ := HRy.out.some k hlt
          have ji : (k : Int) < (M : Int) := by omega
          go_wp2_with fail
          go_roundw
          case rel => exact ⟨k + 1, by omega, by go_num, HK.out.trans (Keeps.two2 _ _ _ _ _ _) (fun _ _ e => e), HRy.out.set k hlt 0 4096⟩
          case measure => simp [intOf]; omega
        · obtain rfl : k = M := by omega
          have HX6 : Hid (BoxB wr w.heap.size vr vd) := HX5.out.keeps HK.out (by have := HLt.out; omega)
          have HM6 : Hid (MadeR w1.heap.size wr pm rs ds) := HM5.out.keeps HK.out (fun j e => by have := HLt.out; omega)
          have HBw6 : Hid (Below w.heap.size w wr) := HBw5.out.trans (HK.out.below HBw5.out.size (fun i _ e => by have := HLt.out; omega))
          obtain ⟨x0, x1, _, _⟩ := HX6.out.cells
          clear HX5 HM5 HBw5 HK HRy hk hlt
          go_wp2_with fail
          refine (HRf.out _ HBw6.out).mono ?_
          rintro e w7 ⟨rfl, hb7⟩
          have HBw7 : Hid (Below w.heap.size w w7) := HBw6.out.trans (hb7.mono HBw6.out.size)
          have HM7 : Hid (MadeR w.heap.size w7 pm rs ds) := (HM6.out.below hb7).mono HBw1.out.size
          clear hb7 HRf
          rcases HM7.out with ⟨h0, rfl⟩ | ⟨h0, m, B, V, rfl, hm, hj⟩
          · have hw0 : ¬ why = 0 := by rw [← HWhy.out]; exact h0
            have hw1 : (why == 0) = false := by simpa using hw0
            clear h0 HWhy
            go_wp2_with fail
            go_ret2
            exact ⟨none, rfl, HBw7, HM7⟩
          · obtain rfl : why = 0 := by rw [← HWhy.out]; exact h0
            clear h0 HWhy hm hj
            go_wp2_with fail
            go_ret2
            exact ⟨some ⟨m, 0, none⟩, rfl, HBw7, HM7⟩
end Go.Proofs.Ytmaahompmgmkfaa
