/- New of any bus; handed, made. Own work. -/
import Derived.Test.YtmaahompmgmkfaaRgNew
import Derived.Test.YtmaahompmgmkfaaRgRef
import Derived.Test.YtmaahompmgmkfaaRgRoom
import Derived.RegionTactic
namespace Go.Proofs.Ytmaahompmgmkfaa
open Go.RowKit Go.Maps Go.Proofs.Ytmaahompmgmkfaa.Sp
/-- the machine of a bus, or none -/
def MadeR (base : Nat) (W : World) (pm : Option Addr) (rs ds : List Sp) : Prop :=
  (refW rs ds ≠ 0 ∧ pm = none) ∨ (refW rs ds = 0 ∧ ∃ m B V, pm = some ⟨m, 0, none⟩ ∧ Mac W m B V (fun _ => none) (fun _ => 0) rs ds 0 0 0 ∧ ∀ j, Mine m B V (fun _ => none) j → base ≤ j)
theorem MadeR.keeps {Z : Nat → Prop} {base : Nat} {W W' : World} {pm : Option Addr} {rs ds : List Sp} (h : MadeR base W pm rs ds) (hk : Keeps Z W W') (hz : ∀ j, Z j → j < base) : MadeR base W' pm rs ds := by
  rcases h with h | ⟨h0, m, B, V, e, hm, hj⟩
  · exact .inl h
  · exact .inr ⟨h0, m, B, V, e, hm.keeps hk (fun j hj' hz' => by have := hj j hj'; have := hz j hz'; omega), hj⟩
theorem MadeR.below {base : Nat} {W W' : World} {pm : Option Addr} {rs ds : List Sp} (h : MadeR base W pm rs ds) (hb : Below W.heap.size W W') : MadeR base W' pm rs ds :=
  h.keeps (Keeps.of_below (S := fun _ => False) hb) (fun _ h => h.elim)
theorem MadeR.mono {base base' : Nat} {W : World} {pm : Option Addr} {rs ds : List Sp} (h : MadeR base W pm rs ds) (hb : base' ≤ base) : MadeR base' W pm rs ds := by
  rcases h with h | ⟨h0, m, B, V, e, hm, hj⟩
  · exact .inl h
  · exact .inr ⟨h0, m, B, V, e, hm, fun j h => Nat.le_trans hb (hj j h)⟩
theorem new_any {w : World} {vr vd : Value} {rs ds : List Sp} (hr : U64.SV w vr rs) (hd : U64.SV w vd ds) (fr : Fits 18446744073709551615 rs) (fd : Fits 18446744073709551615 ds) :
    Calls Try.prog 16 #[.agg #[vr, vd]] w fun e w' => ∃ pm, e = .returned (.tuple #[.pointer pm, .int .i64 (refW rs ds)]) ∧ Hid (Below w.heap.size w w') ∧ Hid (MadeR w.heap.size w' pm rs ds) := by
  by_cases hl : 8 < rs.length ∨ 32 < ds.length
  · have e : refW rs ds = 4 := if_pos hl
    refine (new_many hr hd hl).mono ?_
    rintro _ w' ⟨rfl, hb⟩
    exact ⟨none, by rw [e], hb, .inl ⟨by rw [e]; decide, rfl⟩⟩
  · by_cases s1 : stakeW 18446744073709551615 [] rs = 0
    · by_cases s2 : stakeW 1048576 rs ds = 0
      · by_cases s3 : 67108864 < smR rs
        · have e : refW rs ds = 36 := by rw [refW, if_neg hl]; simp [s1, s2, s3]
          refine (new_big hr hd (by omega) (by omega) fr fd s1 s2 (fun G hG => by have := ground_tot fr s1 hG; omega)).mono ?_
          rintro _ w' ⟨rfl, hb⟩
          exact ⟨none, by rw [e], hb, .inl ⟨by rw [e]; decide, rfl⟩⟩
        · have e : refW rs ds = 0 := by rw [refW, if_neg hl]; simp [s1, s2, s3]
          refine (new_ok hr hd (by omega) (by omega) fr fd s1 s2 (fun G hG => by have := ground_tot fr s1 hG; omega)).mono ?_
          rintro _ w' ⟨m, B, V, rfl, hb, hm, hj⟩
          exact ⟨some ⟨m, 0, none⟩, by rw [e], hb, .inr ⟨e, m, B, V, rfl, hm, hj⟩⟩
      · have e : refW rs ds = stakeW 1048576 rs ds := by rw [refW, if_neg hl]; simp [s1, s2]
        refine (new_bad2 hr hd (by omega) (by omega) fr fd s1 s2).mono ?_
        rintro _ w' ⟨rfl, hb⟩
        exact ⟨none, by rw [e], hb, .inl ⟨by rw [e]; exact s2, rfl⟩⟩
    · have e : refW rs ds = stakeW 18446744073709551615 [] rs := by rw [refW, if_neg hl]; simp [s1]
      refine (new_bad1 hr hd (by omega) (by omega) fr s1).mono ?_
      rintro _ w' ⟨rfl, hb⟩
      exact ⟨none, by rw [e], hb, .inl ⟨by rw [e]; exact s1, rfl⟩⟩
set_option maxRecDepth 100000 in
set_option maxHeartbeats 4000000 in
theorem handed_any {w : World} {vr vd : Value} {rs ds : List Sp} (hr : U64.SV w vr rs) (hd : U64.SV w vd ds) (hl : rs.length ≤ 8796093022000) (hl2 : ds.length ≤ 8796093022000) :
    Calls Try.prog 15 #[.agg #[vr, vd]] w fun e w' => ∃ gx gy, e = .returned (.tuple #[.agg #[.slice (some ⟨gx, 0, none⟩) rs.length (rs.length + 80), .slice (some ⟨gy, 0, none⟩) ds.length (ds.length + 80)], .slice (some ⟨gx, 0, none⟩) (rs.length + 80) (rs.length + 80), .slice (some ⟨gy, 0, none⟩) (ds.length + 80) (ds.length + 80)]) ∧ Hid (RowR w' gx (roomR (5, 0) rs)) ∧ Hid (RowR w' gy (roomR (6, 0) ds)) ∧ Hid (w.heap.size ≤ gx ∧ gx < gy ∧ Below w.heap.size w w') := by
  have HR : Hid (∀ W, Below w.heap.size w W → Calls Try.prog 25 #[vr, .agg #[.int .u64 5, .int .u64 0]] W fun e w' => ∃ g, W.heap.size ≤ g ∧ e = .returned (.slice (some ⟨g, 0, none⟩) (rs.length + 80) (rs.length + 80)) ∧ RowR w' g (roomR (5, 0) rs) ∧ Below W.heap.size W w') := fun W hW => roomyR_any (mk := (5, 0)) (hr.below hW (Nat.le_refl _)) hl
  have HD : Hid (∀ W, Below w.heap.size w W → Calls Try.prog 25 #[vd, .agg #[.int .u64 6, .int .u64 0]] W fun e w' => ∃ g, W.heap.size ≤ g ∧ e = .returned (.slice (some ⟨g, 0, none⟩) (ds.length + 80) (ds.length + 80)) ∧ RowR w' g (roomR (6, 0) ds) ∧ Below W.heap.size W w') := fun W hW => roomyR_any (mk := (6, 0)) (hd.below hW (Nat.le_refl _)) hl2
  obtain ⟨ar, cr, rfl, hq1⟩ := hr
  clear hq1
  obtain ⟨ad, cd, rfl, hq2⟩ := hd
  clear hq2
  go_enter Try.func15, Try.ntmps15
  go_wp2_with fail
  obtain ⟨W0, hW0⟩ : ∃ W0, (w.alloc (Obj.cells #[.slice ar rs.length cr, .slice ad ds.length cd] 24)).alloc (Obj.cells #[.slice none 0 0, .slice none 0 0] 24) = W0 := ⟨_, rfl⟩
  have HB0 : Hid (Below w.heap.size w W0) := hW0 ▸ ((Below.refl _ _).alloc (Nat.le_refl _) _).alloc (by simp) _
  have HX0 : Hid (BoxB W0 w.heap.size (.slice ar rs.length cr) (.slice ad ds.length cd)) := hW0 ▸ (show BoxB (w.alloc (Obj.cells #[.slice ar rs.length cr, .slice ad ds.length cd] 24)) w.heap.size _ _ from heap_alloc_new w _).below ((Below.refl _ _).alloc (Nat.le_refl _) _)
  have HY0 : Hid (BoxB W0 (w.heap.size + 1) (.slice none 0 0) (.slice none 0 0)) := by
    have := heap_alloc_new (w.alloc (Obj.cells #[.slice ar rs.length cr, .slice ad ds.length cd] 24)) (Obj.cells #[.slice none 0 0, .slice none 0 0] 24)
    rw [show (w.alloc (Obj.cells #[.slice ar rs.length cr, .slice ad ds.length cd] 24)).heap.size = w.heap.size + 1 by simp, hW0] at this
    exact this
  have HZ0 : Hid (W0.heap.size = w.heap.size + 2) := by show _ = _; rw [← hW0]; simp
  try rw [hW0]
  clear hW0
  refine (HR.out _ HB0.out).mono ?_
  rintro e w1 ⟨gx, hgx, rfl, hrx, hb1⟩
  have HB1 : Hid (Below W0.heap.size W0 w1) := hb1
  have HRx : Hid (RowR w1 gx (roomR (5, 0) rs)) := hrx
  have HBw1 : Hid (Below w.heap.size w w1) := HB0.out.trans (hb1.mono HB0.out.size)
  obtain ⟨x0, x1, _, _⟩ := (HX0.out.below hb1).cells
  clear hb1 hrx HR
  go_wp2_with fail
  refine (HD.out _ HBw1.out).mono ?_
  rintro e w2 ⟨gy, hgy, rfl, hry, hb2⟩
  have HB2 : Hid (Below w1.heap.size w1 w2) := hb2
  have HRy : Hid (RowR w2 gy (roomR (6, 0) ds)) := hry
  have HRx2 : Hid (RowR w2 gx (roomR (5, 0) rs)) := HRx.out.below hb2
  have HBw2 : Hid (Below w.heap.size w w2) := HBw1.out.trans (hb2.mono HBw1.out.size)
  have HY2 : Hid (BoxB w2 (w.heap.size + 1) (.slice none 0 0) (.slice none 0 0)) := (HY0.out.below HB1.out).below hb2
  obtain ⟨x0, x1, _, _⟩ := ((HX0.out.below HB1.out).below hb2).cells
  obtain ⟨y0, y1, f0, f1⟩ := HY2.out.cells
  have HLt : Hid (w.heap.size + 2 ≤ gx ∧ gx < gy) := ⟨by have := HZ0.out; omega, Nat.lt_of_lt_of_le HRx.out.lt hgy⟩
  have hne : w.heap.size ≠ w.heap.size + 1 := by omega
  clear hb2 hry HD hgx hgy
  have HL1 := Lib.hid hl
  have HL2 := Lib.hid hl2
  obtain ⟨n, hN⟩ : ∃ n, rs.length = n := ⟨_, rfl⟩
  obtain ⟨k, hM⟩ : ∃ k, ds.length = k := ⟨_, rfl⟩
  obtain ⟨P, hP⟩ : ∃ P, rs.length + 80 = P := ⟨_, rfl⟩
  obtain ⟨Q, hQ⟩ : ∃ Q, ds.length + 80 = Q := ⟨_, rfl⟩
  have HE : Hid (rs.length = n ∧ ds.length = k ∧ rs.length + 80 = P ∧ ds.length + 80 = Q) := ⟨hN, hM, hP, hQ⟩
  have i1 : (n : Int) ≤ (P : Int) := by omega
  have i2 : (k : Int) ≤ (Q : Int) := by omega
  have i3 : n ≤ P := by omega
  have i4 : k ≤ Q := by omega
  have i5 : P ≤ 8796093023000 := by omega
  have i6 : Q ≤ 8796093023000 := by omega
  rw [hP, hQ, hN, hM]
  rw [hN] at x0
  rw [hM] at x1
  clear hN hM hP hQ hl hl2
  go_wp2_with fail
  go_region_held3 (fun w' => w'.cell? ⟨w.heap.size, 0, none⟩ = some (.slice ar n cr) ∧ w'.cell? ⟨w.heap.size, 1, none⟩ = some (.slice ad k cd)) (first | exact ⟨(U64.set_other hne).trans ((U64.set_other hne).trans x0), (U64.set_other hne).trans ((U64.set_other hne).trans x1)⟩ | go_keep) (fail)
  go_wp2_with fail
  obtain ⟨d0, d1, _⟩ := BoxB.cells (w := ((w2.setCell ⟨w.heap.size + 1, 0, none⟩ (.slice (some ⟨gx, 0, none⟩) n P)).setCell ⟨w.heap.size + 1, 1, none⟩ (.slice (some ⟨gy, 0, none⟩) k Q)).drew) (HY2.out.set (.slice (some ⟨gx, 0, none⟩) n P) (.slice (some ⟨gy, 0, none⟩) k Q))
  refine bodyPost_ret (v := .tuple #[.agg #[.slice (some ⟨gx, 0, none⟩) n P, .slice (some ⟨gy, 0, none⟩) k Q], .slice (some ⟨gx, 0, none⟩) P P, .slice (some ⟨gy, 0, none⟩) Q Q]) (by simp [results, Try.results15, go_sem, d0, d1]) rfl ?_
  have hk2 : Keeps (fun j => j = w.heap.size + 1) w2 ((w2.setCell ⟨w.heap.size + 1, 0, none⟩ (.slice (some ⟨gx, 0, none⟩) n P)).setCell ⟨w.heap.size + 1, 1, none⟩ (.slice (some ⟨gy, 0, none⟩) k Q)).drew := (Keeps.two' w2 (w.heap.size + 1) _ _).drew
  have hlt := HLt.out
  obtain ⟨e1, e2, e3, e4⟩ := HE.out
  rw [e3, e4, e1, e2]
  exact ⟨gx, gy, rfl, HRx2.out.keeps hk2 (by omega), HRy.out.keeps hk2 (by omega), by omega, hlt.2, (((HBw2.out.setCell (p := ⟨w.heap.size + 1, 0, none⟩) (show w.heap.size ≤ w.heap.size + 1 by omega) _).setCell (p := ⟨w.heap.size + 1, 1, none⟩) (show w.heap.size ≤ w.heap.size + 1 by omega) _)).drew⟩
end Go.Proofs.Ytmaahompmgmkfaa
