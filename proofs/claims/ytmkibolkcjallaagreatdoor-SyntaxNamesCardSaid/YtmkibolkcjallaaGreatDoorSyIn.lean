/- inGroup, inPolicy, where none of their words is ahead (written by parts/gen_sy2.py). Own work. -/
import Derived.Test.YtmkibolkcjallaaGreatDoorSyRt
namespace Go.Proofs.YtmkibolkcjallaaGreatDoor
open Go.RowKit
set_option maxRecDepth 100000 in
set_option maxHeartbeats 4000000 in
theorem inGroup_no {w : World} {pb base b o cap n g off m lc p q : Nat} {par : Par} {ws : List ByteArray} {zs : List Nat} (h : Lx w pb base b o cap n g off m lc p q par ws zs) (hno : ∀ t ∈ kwInner ++ kwGroup, mkS zs ≠ t) (hl : ws.length ≤ 800) (hwb : ∀ s ∈ ws, s.size ≤ 1000) (hzl : zs.length ≤ 1048576) (hpl : p ≤ 1048576) (hnm : par.naming = false) :
    Calls Tryz.prog 32 #[.pointer (some ⟨pb, 0, none⟩)] w fun e w' => e = stopE 60 ∧ ∃ wv, ParB w' pb { par with words := wv, wrong := (p : Int) + (rightN (ws ++ kwInner ++ kwGroup) zs : Nat), why := 60 } ∧ Mv pb base w w' := by
  have HNo : Hid (∀ t ∈ kwInner ++ kwGroup, mkS zs ≠ t) := hno
  have HI : Hid (∀ fn cs ds, Calls Tryz.prog 48 #[.pointer (some ⟨pb, 0, none⟩), .func fn cs ds] w fun e w' => e = .returned (.bool false) ∧ ∃ wv, Lx w' pb base b o cap n g off m lc p q { par with words := wv } (ws ++ kwInner) zs ∧ Mv pb base w w') := fun fn cs ds => inner_no h (fun t ht => hno t (List.mem_append_left _ ht)) (by omega)
  have HWb : Hid (∀ s ∈ ws ++ kwInner ++ kwGroup, s.size ≤ 1048576) := fun s hs => by
    rcases List.mem_append.1 hs with hs | hs
    · rcases List.mem_append.1 hs with hs | hs
      · exact Nat.le_trans (hwb s hs) (by omega)
      · have : ∀ s ∈ kwInner, s.size ≤ 1000 := by decide
        exact Nat.le_trans (this s hs) (by omega)
    · have : ∀ s ∈ kwGroup, s.size ≤ 1000 := by decide
      exact Nat.le_trans (this s hs) (by omega)
  have HNm : Hid (par.naming = false) := hnm
  clear h hno hwb hnm
  go_enter Tryz.func32, Tryz.ntmps32
  go_wp2_with fail
  refine (HI.out _ _ _).mono ?_
  rintro e w1 ⟨rfl, v1, hx1, hm1⟩
  have HX1 : Hid (Lx w1 pb base b o cap n g off m lc p q { par with words := v1 } (ws ++ kwInner) zs) := hx1
  have HM1 : Hid (Mv pb base w w1) := hm1
  clear hx1 hm1 HI
  go_wp2_with fail
  refine (takes_no ⟨#[117, 115, 101]⟩ HX1.out (HNo.out _ (by simp [kwInner, kwGroup])) (by simp [kwInner]; omega)).mono ?_
  rintro e w2 ⟨rfl, v2, hx2, hm2⟩
  have HX2 : Hid (Lx w2 pb base b o cap n g off m lc p q { par with words := v2 } (ws ++ kwInner ++ [⟨#[117, 115, 101]⟩]) zs) := show Lx _ _ _ _ _ _ _ _ _ _ _ _ _ _ _ _ by simpa using hx2
  have HM2 : Hid (Mv pb base w w2) := HM1.out.trans hm2
  clear hx2 hm2 HX1 HM1
  go_wp2_with fail
  refine (takes_no ⟨#[114, 97, 109]⟩ HX2.out (HNo.out _ (by simp [kwInner, kwGroup])) (by simp [kwInner]; omega)).mono ?_
  rintro e w3 ⟨rfl, v3, hx3, hm3⟩
  have HX3 : Hid (Lx w3 pb base b o cap n g off m lc p q { par with words := v3 } (ws ++ kwInner ++ [⟨#[117, 115, 101]⟩, ⟨#[114, 97, 109]⟩]) zs) := show Lx _ _ _ _ _ _ _ _ _ _ _ _ _ _ _ _ by simpa using hx3
  have HM3 : Hid (Mv pb base w w3) := HM2.out.trans hm3
  clear hx3 hm3 HX2 HM2
  go_wp2_with fail
  refine (takes_no ⟨#[100, 101, 118, 105, 99, 101]⟩ HX3.out (HNo.out _ (by simp [kwInner, kwGroup])) (by simp [kwInner]; omega)).mono ?_
  rintro e w4 ⟨rfl, v4, hx4, hm4⟩
  have HX4 : Hid (Lx w4 pb base b o cap n g off m lc p q { par with words := v4 } (ws ++ kwInner ++ [⟨#[117, 115, 101]⟩, ⟨#[114, 97, 109]⟩, ⟨#[100, 101, 118, 105, 99, 101]⟩]) zs) := show Lx _ _ _ _ _ _ _ _ _ _ _ _ _ _ _ _ by simpa using hx4
  have HM4 : Hid (Mv pb base w w4) := HM3.out.trans hm4
  clear hx4 hm4 HX3 HM3
  go_wp2_with fail
  refine (takes_no ⟨#[114, 101, 103, 105, 111, 110]⟩ HX4.out (HNo.out _ (by simp [kwInner, kwGroup])) (by simp [kwInner]; omega)).mono ?_
  rintro e w5 ⟨rfl, v5, hx5, hm5⟩
  have HX5 : Hid (Lx w5 pb base b o cap n g off m lc p q { par with words := v5 } (ws ++ kwInner ++ [⟨#[117, 115, 101]⟩, ⟨#[114, 97, 109]⟩, ⟨#[100, 101, 118, 105, 99, 101]⟩, ⟨#[114, 101, 103, 105, 111, 110]⟩]) zs) := show Lx _ _ _ _ _ _ _ _ _ _ _ _ _ _ _ _ by simpa using hx5
  have HM5 : Hid (Mv pb base w w5) := HM4.out.trans hm5
  clear hx5 hm5 HX4 HM4
  go_wp2_with fail
  refine (takes_no ⟨#[115, 117, 98, 106, 101, 99, 116]⟩ HX5.out (HNo.out _ (by simp [kwInner, kwGroup])) (by simp [kwInner]; omega)).mono ?_
  rintro e w6 ⟨rfl, v6, hx6, hm6⟩
  have HX6 : Hid (Lx w6 pb base b o cap n g off m lc p q { par with words := v6 } (ws ++ kwInner ++ [⟨#[117, 115, 101]⟩, ⟨#[114, 97, 109]⟩, ⟨#[100, 101, 118, 105, 99, 101]⟩, ⟨#[114, 101, 103, 105, 111, 110]⟩, ⟨#[115, 117, 98, 106, 101, 99, 116]⟩]) zs) := show Lx _ _ _ _ _ _ _ _ _ _ _ _ _ _ _ _ by simpa using hx6
  have HM6 : Hid (Mv pb base w w6) := HM5.out.trans hm6
  clear hx6 hm6 HX5 HM5
  go_wp2_with fail
  refine (takes_no ⟨#[99, 104, 97, 110, 110, 101, 108]⟩ HX6.out (HNo.out _ (by simp [kwInner, kwGroup])) (by simp [kwInner]; omega)).mono ?_
  rintro e w7 ⟨rfl, v7, hx7, hm7⟩
  have HX7 : Hid (Lx w7 pb base b o cap n g off m lc p q { par with words := v7 } (ws ++ kwInner ++ [⟨#[117, 115, 101]⟩, ⟨#[114, 97, 109]⟩, ⟨#[100, 101, 118, 105, 99, 101]⟩, ⟨#[114, 101, 103, 105, 111, 110]⟩, ⟨#[115, 117, 98, 106, 101, 99, 116]⟩, ⟨#[99, 104, 97, 110, 110, 101, 108]⟩]) zs) := show Lx _ _ _ _ _ _ _ _ _ _ _ _ _ _ _ _ by simpa using hx7
  have HM7 : Hid (Mv pb base w w7) := HM6.out.trans hm7
  clear hx7 hm7 HX6 HM6
  go_wp2_with fail
  refine (takes_no ⟨#[105, 114, 113]⟩ HX7.out (HNo.out _ (by simp [kwInner, kwGroup])) (by simp [kwInner]; omega)).mono ?_
  rintro e w8 ⟨rfl, v8, hx8, hm8⟩
  have HX8 : Hid (Lx w8 pb base b o cap n g off m lc p q { par with words := v8 } (ws ++ kwInner ++ [⟨#[117, 115, 101]⟩, ⟨#[114, 97, 109]⟩, ⟨#[100, 101, 118, 105, 99, 101]⟩, ⟨#[114, 101, 103, 105, 111, 110]⟩, ⟨#[115, 117, 98, 106, 101, 99, 116]⟩, ⟨#[99, 104, 97, 110, 110, 101, 108]⟩, ⟨#[105, 114, 113]⟩]) zs) := show Lx _ _ _ _ _ _ _ _ _ _ _ _ _ _ _ _ by simpa using hx8
  have HM8 : Hid (Mv pb base w w8) := HM7.out.trans hm8
  clear hx8 hm8 HX7 HM7
  go_wp2_with fail
  refine (takes_no ⟨#[112, 108, 97, 110]⟩ HX8.out (HNo.out _ (by simp [kwInner, kwGroup])) (by simp [kwInner]; omega)).mono ?_
  rintro e w9 ⟨rfl, v9, hx9, hm9⟩
  have HX9 : Hid (Lx w9 pb base b o cap n g off m lc p q { par with words := v9 } (ws ++ kwInner ++ [⟨#[117, 115, 101]⟩, ⟨#[114, 97, 109]⟩, ⟨#[100, 101, 118, 105, 99, 101]⟩, ⟨#[114, 101, 103, 105, 111, 110]⟩, ⟨#[115, 117, 98, 106, 101, 99, 116]⟩, ⟨#[99, 104, 97, 110, 110, 101, 108]⟩, ⟨#[105, 114, 113]⟩, ⟨#[112, 108, 97, 110]⟩]) zs) := show Lx _ _ _ _ _ _ _ _ _ _ _ _ _ _ _ _ by simpa using hx9
  have HM9 : Hid (Mv pb base w w9) := HM8.out.trans hm9
  clear hx9 hm9 HX8 HM8
  go_wp2_with fail
  refine (takes_no ⟨#[109, 97, 115, 116, 101, 114]⟩ HX9.out (HNo.out _ (by simp [kwInner, kwGroup])) (by simp [kwInner]; omega)).mono ?_
  rintro e w10 ⟨rfl, v10, hx10, hm10⟩
  have HX10 : Hid (Lx w10 pb base b o cap n g off m lc p q { par with words := v10 } (ws ++ kwInner ++ [⟨#[117, 115, 101]⟩, ⟨#[114, 97, 109]⟩, ⟨#[100, 101, 118, 105, 99, 101]⟩, ⟨#[114, 101, 103, 105, 111, 110]⟩, ⟨#[115, 117, 98, 106, 101, 99, 116]⟩, ⟨#[99, 104, 97, 110, 110, 101, 108]⟩, ⟨#[105, 114, 113]⟩, ⟨#[112, 108, 97, 110]⟩, ⟨#[109, 97, 115, 116, 101, 114]⟩]) zs) := show Lx _ _ _ _ _ _ _ _ _ _ _ _ _ _ _ _ by simpa using hx10
  have HM10 : Hid (Mv pb base w w10) := HM9.out.trans hm10
  clear hx10 hm10 HX9 HM9
  go_wp2_with fail
  refine (takes_no ⟨#[115, 116, 97, 114, 116]⟩ HX10.out (HNo.out _ (by simp [kwInner, kwGroup])) (by simp [kwInner]; omega)).mono ?_
  rintro e w11 ⟨rfl, v11, hx11, hm11⟩
  have HX11 : Hid (Lx w11 pb base b o cap n g off m lc p q { par with words := v11 } (ws ++ kwInner ++ [⟨#[117, 115, 101]⟩, ⟨#[114, 97, 109]⟩, ⟨#[100, 101, 118, 105, 99, 101]⟩, ⟨#[114, 101, 103, 105, 111, 110]⟩, ⟨#[115, 117, 98, 106, 101, 99, 116]⟩, ⟨#[99, 104, 97, 110, 110, 101, 108]⟩, ⟨#[105, 114, 113]⟩, ⟨#[112, 108, 97, 110]⟩, ⟨#[109, 97, 115, 116, 101, 114]⟩, ⟨#[115, 116, 97, 114, 116]⟩]) zs) := show Lx _ _ _ _ _ _ _ _ _ _ _ _ _ _ _ _ by simpa using hx11
  have HM11 : Hid (Mv pb base w w11) := HM10.out.trans hm11
  clear hx11 hm11 HX10 HM10
  go_wp2_with fail
  refine (refuse_at HX11.out HWb.out hzl (by simp [kwInner]; omega) hpl HNm.out).mono ?_
  rintro e w12 ⟨rfl, h12, hm12⟩
  exact ⟨rfl, rfl, v11, h12, HM11.out.trans hm12⟩
set_option maxRecDepth 100000 in
set_option maxHeartbeats 4000000 in
theorem inPolicy_no {w : World} {pb base b o cap n g off m lc p q : Nat} {par : Par} {ws : List ByteArray} {zs : List Nat} (h : Lx w pb base b o cap n g off m lc p q par ws zs) (hno : ∀ t ∈ kwInner ++ kwGroup, mkS zs ≠ t) (hno2 : mkS zs ≠ ⟨#[103, 114, 111, 117, 112]⟩) (hl : ws.length ≤ 700) (hwb : ∀ s ∈ ws, s.size ≤ 1000) (hzl : zs.length ≤ 1048576) (hpl : p ≤ 1048576) (hnm : par.naming = false) :
    Calls Tryz.prog 18 #[.pointer (some ⟨pb, 0, none⟩)] w fun e w' => e = stopE 60 ∧ ∃ wv, ParB w' pb { par with words := wv, wrong := (p : Int) + (rightN (ws ++ [⟨#[103, 114, 111, 117, 112]⟩] ++ kwInner ++ kwGroup) zs : Nat), why := 60 } ∧ Mv pb base w w' := by
  have H0 : Hid (Lx w pb base b o cap n g off m lc p q par ws zs) := h
  have HNo : Hid (∀ t ∈ kwInner ++ kwGroup, mkS zs ≠ t) := hno
  have HN2 : Hid (mkS zs ≠ ⟨#[103, 114, 111, 117, 112]⟩) := hno2
  have HWb : Hid (∀ s ∈ ws ++ [⟨#[103, 114, 111, 117, 112]⟩], s.size ≤ 1000) := fun s hs => by
    rcases List.mem_append.1 hs with hs | hs
    · exact hwb s hs
    · obtain rfl := List.mem_singleton.1 hs
      decide
  have HNm : Hid (par.naming = false) := hnm
  clear h hno hno2 hwb hnm
  go_enter Tryz.func18, Tryz.ntmps18
  go_wp2_with fail
  refine (takes_no ⟨#[103, 114, 111, 117, 112]⟩ H0.out HN2.out (by omega)).mono ?_
  rintro e w1 ⟨rfl, v1, hx1, hm1⟩
  have HX1 : Hid (Lx w1 pb base b o cap n g off m lc p q { par with words := v1 } (ws ++ [⟨#[103, 114, 111, 117, 112]⟩]) zs) := hx1
  have HM1 : Hid (Mv pb base w w1) := hm1
  clear hx1 hm1
  go_wp2_with fail
  refine (inGroup_no HX1.out HNo.out (by simp; omega) HWb.out hzl hpl HNm.out).mono ?_
  rintro e w2 ⟨rfl, v2, h2, hm2⟩
  exact ⟨rfl, rfl, v2, h2, HM1.out.trans hm2⟩
end Go.Proofs.YtmkibolkcjallaaGreatDoor
