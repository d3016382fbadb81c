import Derived.Test.YtnifefmfhjfbnaaGreatDoorPk16
import Derived.Test.YtnifefmfhjfbnaaGreatDoorPk20
import Derived.Laws.ResultCell
/- Bundle: list, at each type (written by parts/gen_dclst.py). Own work. -/
namespace Go.Proofs.YtnifefmfhjfbnaaGreatDoor
open Go.RowKit Bn Dc
set_option linter.unusedVariables false
set_option linter.unusedSimpArgs false
/-- a slice, by its parts -/
structure SlV where
 a : Option Addr
 n : Nat
 c : Nat
def slE1 (x : SlV) : Value := .slice x.a x.n x.c
def slE (x : SlV) : List Value := [slE1 x]
def scE (x : Int × SlV) : List Value := [.int .i64 x.1, slE1 x.2]
def tbE (f : Nat → Nat) : List Value := (tabV f).toList
theorem rg_ok : EncOk 2 rgE := ⟨fun _ => rfl, fun x u hu => by simp [rgE] at hu; rcases hu with rfl | rfl <;> rfl⟩
theorem tn_ok : EncOk 6 tnE := ⟨fun _ => rfl, fun x u hu => by simp [tnE] at hu; rcases hu with rfl | rfl | rfl | rfl | rfl | rfl <;> rfl⟩
theorem po_ok : EncOk 1 poE := ⟨fun _ => rfl, fun x u hu => by simp [poE] at hu; rcases hu with rfl <;> rfl⟩
theorem gd_ok : EncOk 4 gdE := ⟨fun _ => rfl, fun x u hu => by simp [gdE] at hu; rcases hu with rfl | rfl | rfl | rfl <;> rfl⟩
theorem lk_ok : EncOk 5 lkE := ⟨fun _ => rfl, fun x u hu => by simp [lkE] at hu; rcases hu with rfl | rfl | rfl | rfl | rfl <;> rfl⟩
theorem st_ok : EncOk 2 stE := ⟨fun _ => rfl, fun x u hu => by simp [stE] at hu; rcases hu with rfl | rfl <;> rfl⟩
theorem sl_ok : EncOk 1 slE := ⟨fun _ => rfl, fun x u hu => by simp [slE] at hu; rcases hu with rfl <;> rfl⟩
theorem sc_ok : EncOk 2 scE := ⟨fun _ => rfl, fun x u hu => by simp [scE] at hu; rcases hu with rfl | rfl <;> rfl⟩
theorem infoRg : (Tryz.prog.info? 79).map (fun i => (i.zero, i.size, i.bytes)) = some (some (.agg #[.int .u64 0, .int .u64 0]), 2, 16) := by kernel_rfl
section
variable {B kb : Nat} {raw : Value} {im en : List Value} {q : Pt} {p g : Nat} {s : D} {w : World}
set_option maxRecDepth 100000 in
set_option maxHeartbeats 4000000 in
theorem listRgX {α : Type} {R : World → Rg → α → Prop} (hR : ∀ W W' x y, R W x y → Rz 79 W W' → R W' x y) (one : D → α × D) (hone : ∀ W t, Dt B kb raw im en q p g W t W → Fd B w W → Calls Tryz.prog 90 #[.pointer (some ⟨kb, 0, none⟩)] W fun e w' => ∃ x, e = .returned (.agg (rgE x).toArray) ∧ R w' x (one t).1 ∧ Dt B kb raw im en q p g W (one t).2 w') (h : Dt B kb raw im en q p g w s w) {n : Nat} (hn : n ≤ 1048576) :
  Calls Tryz.prog 89 #[.pointer (some ⟨kb, 0, none⟩), .int .i64 (n : Int), (.func (.func 90) #[.pointer (some ⟨kb, 0, none⟩)] #[])] w fun e w' => ∃ v xs, e = .returned v ∧ OwnG 79 2 rgE w' w.heap.size v xs ∧ T2 (R w') xs (listD one n s).1 ∧ Dt B kb raw im en q p g w (listD one n s).2 w' := by
 have H0 : Hid (Lst 79 2 rgE R one B kb raw im en q p g w s (.slice none 0 0) 0 w) := ⟨⟨[], OwnG.nil _ _ _ _ _, rfl, .nil⟩, h⟩
 have HOne : Hid (∀ W t, Dt B kb raw im en q p g W t W → Fd B w W → Calls Tryz.prog 90 #[.pointer (some ⟨kb, 0, none⟩)] W fun e w' => ∃ x, e = .returned (.agg (rgE x).toArray) ∧ R w' x (one t).1 ∧ Dt B kb raw im en q p g W (one t).2 w') := hone
 have HR : Hid (∀ W W' x y, R W x y → Rz 79 W W' → R W' x y) := hR
 have HGo : Hid (∀ W s', Dt B kb raw im en q p g w s' W → Calls Tryz.prog 121 #[.pointer (some ⟨kb, 0, none⟩)] W fun e w' => e = .returned (.bool (goD s')) ∧ w' = W) := fun W s' hW => dgoesX hW
 have HLt : Hid (kb < w.heap.size) := h.lt
 clear hone hR h
 go_enter Tryz.func89, Tryz.ntmps89
 go_wp2_with fail
 go_loopw [7] (fun v wr => ∃ (i : Nat) (ao : Option Addr) (cap : Nat), i ≤ n ∧ v = .slice ao i cap ∧ Hid (Lst 79 2 rgE R one B kb raw im en q p g w s (.slice ao i cap) i wr)) (fun v _ => n - lenOf v)
 case atStart => exact ⟨0, none, 0, Nat.zero_le _, rfl, H0⟩
 case round =>
  clear H0
  obtain ⟨i, ao, cap, hi, rfl, HI⟩ := hrel
  by_cases hin : i < n
  ·have ji : (i : Int) < (n : Int) := by omega
   have HG1 := Lib.hid (HGo.out _ _ HI.out.dt)
   by_cases hg : goD (listD one i s).2 = true
   ·rw [hg] at HG1
    have HO1 := Lib.hid (HOne.out _ _ HI.out.dt.here HI.out.dt.fr)
    clear HOne HGo
    go_wp2_with fail
    refine HG1.out.mono ?_
    rintro e w1 ⟨rfl, h1⟩
    subst h1
    clear HG1
    go_wp2_with fail
    refine HO1.out.mono ?_
    rintro e w2 ⟨x, rfl, hx, h2⟩
    obtain ⟨xs, hxo, hxl, hxt⟩ := HI.out.ex
    have hf2 := h2.fr
    have HO2 : Hid (OwnG 79 2 rgE w2 w.heap.size (.slice ao i cap) xs) := hxo.fd hf2 (by decide) (by decide)
    have HT2 : Hid (T2 (R w2) xs (listD one i s).1) := hxt.imp (fun x y h => HR.out _ _ _ _ h (hf2.rz _))
    have HX2 : Hid (R w2 x (one (listD one i s).2).1) := hx
    have HD2 : Hid (Dt B kb raw im en q p g w (one (listD one i s).2).2 w2) := h2.since HI.out.dt.fr
    have HN : Hid (listD one (i + 1) s = ((listD one i s).1 ++ [(one (listD one i s).2).1], (one (listD one i s).2).2)) := listD_next one i s hg
    have HXl := Lib.hid hxl
    clear hx h2 hf2 hxo hxl hxt HO1 HI
    obtain ⟨W, hW⟩ : ∃ W, W = w2.alloc (.cells (rgE x).toArray 79) := ⟨_, rfl⟩
    have hlow : Below w2.heap.size w2 W := by rw [hW]; exact (Below.refl _ _).alloc (Nat.le_refl _) _
    have HG3 : Hid (W.heap[w2.heap.size]? = some (.cells (rgE x).toArray 79 (0, 0))) := by rw [hW]; exact heap_alloc_new w2 _
    have HO3 : Hid (OwnG 79 2 rgE W w.heap.size (.slice ao i cap) xs) := HO2.out.below hlow
    have HT3 : Hid (T2 (R W) xs (listD one i s).1) := HT2.out.imp (fun x y h => HR.out _ _ _ _ h (Rz.of_below hlow))
    have HX3 : Hid (R W x (one (listD one i s).2).1) := HR.out _ _ _ _ HX2.out (Rz.of_below hlow)
    have HD3 : Hid (Dt B kb raw im en q p g w (one (listD one i s).2).2 W) := HD2.out.below hlow
    have HS3 : Hid (w.heap.size ≤ W.heap.size) := Nat.le_trans HD2.out.fr.size hlow.size
    subst hW
    simp only [rgE]
    clear hlow HO2 HT2 HX2 HD2
    go_wp2_with (at_builtin; refine wpList_appG (enc := rgE) (x := x) (xs := xs) rfl 27 79 (.tmp 16) (.tmp 19) rfl 2 16 _ Tryz.underlying27 infoRg (by decide) rfl (by decide) rg_ok (by rfl) HO3.out (by rfl) HG3.out (by rw [HXl.out]; omega) HS3.out ?_)
    intro va vc w4 HO4 HG4
    have HI4 : Hid (Lst 79 2 rgE R one B kb raw im en q p g w s (.slice va (i + 1) vc) (i + 1) w4) := by
     obtain ⟨_, _, _, _, _, hrow⟩ := HO3.out.form
     have hg9 := HG4.out
     refine ⟨⟨xs ++ [x], ?_, by rw [List.length_append, HXl.out]; rfl, ?_⟩, ?_⟩
     ·have := HO4.out
      rw [HXl.out] at this
      exact this
     ·rw [HN.out]
      exact (HT3.out.snoc HX3.out).imp (fun x y h => HR.out _ _ _ _ h (Rz.grown hg9 (fun k e => (hrow k e).2.2)))
     ·rw [HN.out]
      exact HD3.out.grown hg9 (fun k e => ⟨(hrow k e).1, (hrow k e).2.2⟩) (by decide) (by decide) (by decide)
    rw [HXl.out]
    clear HO4 HG4 HO3 HT3 HX3 HD3 HG3 HN HXl
    go_wp2_with fail
    go_roundw
    case rel => exact ⟨i + 1, va, vc, by omega, rfl, HI4⟩
    case measure => simp [lenOf]; omega
   ·rw [show goD (listD one i s).2 = false by simpa using hg] at HG1
    go_wp2_with fail
    refine HG1.out.mono ?_
    rintro e w1 ⟨rfl, h1⟩
    subst h1
    clear HG1
    go_wp2_with fail
    go_ret
    rw [listD_stop one i s hg n hi]
    obtain ⟨xs, hxo, hxl, hxt⟩ := HI.out.ex
    first | exact ⟨_, xs, rfl, hxo, hxt, HI.out.dt⟩ | exact ⟨_, rfl, xs, hxo, hxt, HI.out.dt⟩
  ·obtain rfl : i = n := by omega
   have ji : ¬ (i : Int) < (i : Int) := by omega
   go_wp2_with fail
   go_ret
   obtain ⟨xs, hxo, hxl, hxt⟩ := HI.out.ex
   first | exact ⟨_, xs, rfl, hxo, hxt, HI.out.dt⟩ | exact ⟨_, rfl, xs, hxo, hxt, HI.out.dt⟩
end
theorem infoTn : (Tryz.prog.info? 71).map (fun i => (i.zero, i.size, i.bytes)) = some (some (.agg #[.int .i64 0, .int .i64 0, .bool false, .int .i64 0, .int .i64 0, .int .i64 0]), 6, 48) := by kernel_rfl
section
variable {B kb : Nat} {raw : Value} {im en : List Value} {q : Pt} {p g : Nat} {s : D} {w : World}
set_option maxRecDepth 100000 in
set_option maxHeartbeats 4000000 in
theorem listTnX {α : Type} {R : World → Tn → α → Prop} (hR : ∀ W W' x y, R W x y → Rz 71 W W' → R W' x y) (one : D → α × D) (hone : ∀ W t, Dt B kb raw im en q p g W t W → Fd B w W → Calls Tryz.prog 93 #[.pointer (some ⟨kb, 0, none⟩)] W fun e w' => ∃ x, e = .returned (.agg (tnE x).toArray) ∧ R w' x (one t).1 ∧ Dt B kb raw im en q p g W (one t).2 w') (h : Dt B kb raw im en q p g w s w) {n : Nat} (hn : n ≤ 1048576) :
  Calls Tryz.prog 91 #[.pointer (some ⟨kb, 0, none⟩), .int .i64 (n : Int), (.func (.func 93) #[.pointer (some ⟨kb, 0, none⟩)] #[])] w fun e w' => ∃ v xs, e = .returned v ∧ OwnG 71 6 tnE w' w.heap.size v xs ∧ T2 (R w') xs (listD one n s).1 ∧ Dt B kb raw im en q p g w (listD one n s).2 w' := by
 have H0 : Hid (Lst 71 6 tnE R one B kb raw im en q p g w s (.slice none 0 0) 0 w) := ⟨⟨[], OwnG.nil _ _ _ _ _, rfl, .nil⟩, h⟩
 have HOne : Hid (∀ W t, Dt B kb raw im en q p g W t W → Fd B w W → Calls Tryz.prog 93 #[.pointer (some ⟨kb, 0, none⟩)] W fun e w' => ∃ x, e = .returned (.agg (tnE x).toArray) ∧ R w' x (one t).1 ∧ Dt B kb raw im en q p g W (one t).2 w') := hone
 have HR : Hid (∀ W W' x y, R W x y → Rz 71 W W' → R W' x y) := hR
 have HGo : Hid (∀ W s', Dt B kb raw im en q p g w s' W → Calls Tryz.prog 121 #[.pointer (some ⟨kb, 0, none⟩)] W fun e w' => e = .returned (.bool (goD s')) ∧ w' = W) := fun W s' hW => dgoesX hW
 have HLt : Hid (kb < w.heap.size) := h.lt
 clear hone hR h
 go_enter Tryz.func91, Tryz.ntmps91
 go_wp2_with fail
 go_loopw [7] (fun v wr => ∃ (i : Nat) (ao : Option Addr) (cap : Nat), i ≤ n ∧ v = .slice ao i cap ∧ Hid (Lst 71 6 tnE R one B kb raw im en q p g w s (.slice ao i cap) i wr)) (fun v _ => n - lenOf v)
 case atStart => exact ⟨0, none, 0, Nat.zero_le _, rfl, H0⟩
 case round =>
  clear H0
  obtain ⟨i, ao, cap, hi, rfl, HI⟩ := hrel
  by_cases hin : i < n
  ·have ji : (i : Int) < (n : Int) := by omega
   have HG1 := Lib.hid (HGo.out _ _ HI.out.dt)
   by_cases hg : goD (listD one i s).2 = true
   ·rw [hg] at HG1
    have HO1 := Lib.hid (HOne.out _ _ HI.out.dt.here HI.out.dt.fr)
    clear HOne HGo
    go_wp2_with fail
    refine HG1.out.mono ?_
    rintro e w1 ⟨rfl, h1⟩
    subst h1
    clear HG1
    go_wp2_with fail
    refine HO1.out.mono ?_
    rintro e w2 ⟨x, rfl, hx, h2⟩
    obtain ⟨xs, hxo, hxl, hxt⟩ := HI.out.ex
    have hf2 := h2.fr
    have HO2 : Hid (OwnG 71 6 tnE w2 w.heap.size (.slice ao i cap) xs) := hxo.fd hf2 (by decide) (by decide)
    have HT2 : Hid (T2 (R w2) xs (listD one i s).1) := hxt.imp (fun x y h => HR.out _ _ _ _ h (hf2.rz _))
    have HX2 : Hid (R w2 x (one (listD one i s).2).1) := hx
    have HD2 : Hid (Dt B kb raw im en q p g w (one (listD one i s).2).2 w2) := h2.since HI.out.dt.fr
    have HN : Hid (listD one (i + 1) s = ((listD one i s).1 ++ [(one (listD one i s).2).1], (one (listD one i s).2).2)) := listD_next one i s hg
    have HXl := Lib.hid hxl
    clear hx h2 hf2 hxo hxl hxt HO1 HI
    obtain ⟨W, hW⟩ : ∃ W, W = w2.alloc (.cells (tnE x).toArray 71) := ⟨_, rfl⟩
    have hlow : Below w2.heap.size w2 W := by rw [hW]; exact (Below.refl _ _).alloc (Nat.le_refl _) _
    have HG3 : Hid (W.heap[w2.heap.size]? = some (.cells (tnE x).toArray 71 (0, 0))) := by rw [hW]; exact heap_alloc_new w2 _
    have HO3 : Hid (OwnG 71 6 tnE W w.heap.size (.slice ao i cap) xs) := HO2.out.below hlow
    have HT3 : Hid (T2 (R W) xs (listD one i s).1) := HT2.out.imp (fun x y h => HR.out _ _ _ _ h (Rz.of_below hlow))
    have HX3 : Hid (R W x (one (listD one i s).2).1) := HR.out _ _ _ _ HX2.out (Rz.of_below hlow)
    have HD3 : Hid (Dt B kb raw im en q p g w (one (listD one i s).2).2 W) := HD2.out.below hlow
    have HS3 : Hid (w.heap.size ≤ W.heap.size) := Nat.le_trans HD2.out.fr.size hlow.size
    subst hW
    simp only [tnE]
    clear hlow HO2 HT2 HX2 HD2
    go_wp2_with (at_builtin; refine wpList_appG (enc := tnE) (x := x) (xs := xs) rfl 30 71 (.tmp 16) (.tmp 19) rfl 6 48 _ Tryz.underlying30 infoTn (by decide) rfl (by decide) tn_ok (by rfl) HO3.out (by rfl) HG3.out (by rw [HXl.out]; omega) HS3.out ?_)
    intro va vc w4 HO4 HG4
    have HI4 : Hid (Lst 71 6 tnE R one B kb raw im en q p g w s (.slice va (i + 1) vc) (i + 1) w4) := by
     obtain ⟨_, _, _, _, _, hrow⟩ := HO3.out.form
     have hg9 := HG4.out
     refine ⟨⟨xs ++ [x], ?_, by rw [List.length_append, HXl.out]; rfl, ?_⟩, ?_⟩
     ·have := HO4.out
      rw [HXl.out] at this
      exact this
     ·rw [HN.out]
      exact (HT3.out.snoc HX3.out).imp (fun x y h => HR.out _ _ _ _ h (Rz.grown hg9 (fun k e => (hrow k e).2.2)))
     ·rw [HN.out]
      exact HD3.out.grown hg9 (fun k e => ⟨(hrow k e).1, (hrow k e).2.2⟩) (by decide) (by decide) (by decide)
    rw [HXl.out]
    clear HO4 HG4 HO3 HT3 HX3 HD3 HG3 HN HXl
    go_wp2_with fail
    go_roundw
    case rel => exact ⟨i + 1, va, vc, by omega, rfl, HI4⟩
    case measure => simp [lenOf]; omega
   ·rw [show goD (listD one i s).2 = false by simpa using hg] at HG1
    go_wp2_with fail
    refine HG1.out.mono ?_
    rintro e w1 ⟨rfl, h1⟩
    subst h1
    clear HG1
    go_wp2_with fail
    go_ret
    rw [listD_stop one i s hg n hi]
    obtain ⟨xs, hxo, hxl, hxt⟩ := HI.out.ex
    first | exact ⟨_, xs, rfl, hxo, hxt, HI.out.dt⟩ | exact ⟨_, rfl, xs, hxo, hxt, HI.out.dt⟩
  ·obtain rfl : i = n := by omega
   have ji : ¬ (i : Int) < (i : Int) := by omega
   go_wp2_with fail
   go_ret
   obtain ⟨xs, hxo, hxl, hxt⟩ := HI.out.ex
   first | exact ⟨_, xs, rfl, hxo, hxt, HI.out.dt⟩ | exact ⟨_, rfl, xs, hxo, hxt, HI.out.dt⟩
end
theorem infoPo : (Tryz.prog.info? 73).map (fun i => (i.zero, i.size, i.bytes)) = some (some (.agg #[.int .i64 0]), 1, 8) := by kernel_rfl
section
variable {B kb : Nat} {raw : Value} {im en : List Value} {q : Pt} {p g : Nat} {s : D} {w : World}
set_option maxRecDepth 100000 in
set_option maxHeartbeats 4000000 in
theorem listPoX {α : Type} {R : World → Int → α → Prop} (hR : ∀ W W' x y, R W x y → Rz 73 W W' → R W' x y) (one : D → α × D) (hone : ∀ W t, Dt B kb raw im en q p g W t W → Fd B w W → Calls Tryz.prog 95 #[.pointer (some ⟨kb, 0, none⟩)] W fun e w' => ∃ x, e = .returned (.agg (poE x).toArray) ∧ R w' x (one t).1 ∧ Dt B kb raw im en q p g W (one t).2 w') (h : Dt B kb raw im en q p g w s w) {n : Nat} (hn : n ≤ 1048576) :
  Calls Tryz.prog 94 #[.pointer (some ⟨kb, 0, none⟩), .int .i64 (n : Int), (.func (.func 95) #[.pointer (some ⟨kb, 0, none⟩)] #[])] w fun e w' => ∃ v xs, e = .returned v ∧ OwnG 73 1 poE w' w.heap.size v xs ∧ T2 (R w') xs (listD one n s).1 ∧ Dt B kb raw im en q p g w (listD one n s).2 w' := by
 have H0 : Hid (Lst 73 1 poE R one B kb raw im en q p g w s (.slice none 0 0) 0 w) := ⟨⟨[], OwnG.nil _ _ _ _ _, rfl, .nil⟩, h⟩
 have HOne : Hid (∀ W t, Dt B kb raw im en q p g W t W → Fd B w W → Calls Tryz.prog 95 #[.pointer (some ⟨kb, 0, none⟩)] W fun e w' => ∃ x, e = .returned (.agg (poE x).toArray) ∧ R w' x (one t).1 ∧ Dt B kb raw im en q p g W (one t).2 w') := hone
 have HR : Hid (∀ W W' x y, R W x y → Rz 73 W W' → R W' x y) := hR
 have HGo : Hid (∀ W s', Dt B kb raw im en q p g w s' W → Calls Tryz.prog 121 #[.pointer (some ⟨kb, 0, none⟩)] W fun e w' => e = .returned (.bool (goD s')) ∧ w' = W) := fun W s' hW => dgoesX hW
 have HLt : Hid (kb < w.heap.size) := h.lt
 clear hone hR h
 go_enter Tryz.func94, Tryz.ntmps94
 go_wp2_with fail
 go_loopw [7] (fun v wr => ∃ (i : Nat) (ao : Option Addr) (cap : Nat), i ≤ n ∧ v = .slice ao i cap ∧ Hid (Lst 73 1 poE R one B kb raw im en q p g w s (.slice ao i cap) i wr)) (fun v _ => n - lenOf v)
 case atStart => exact ⟨0, none, 0, Nat.zero_le _, rfl, H0⟩
 case round =>
  clear H0
  obtain ⟨i, ao, cap, hi, rfl, HI⟩ := hrel
  by_cases hin : i < n
  ·have ji : (i : Int) < (n : Int) := by omega
   have HG1 := Lib.hid (HGo.out _ _ HI.out.dt)
   by_cases hg : goD (listD one i s).2 = true
   ·rw [hg] at HG1
    have HO1 := Lib.hid (HOne.out _ _ HI.out.dt.here HI.out.dt.fr)
    clear HOne HGo
    go_wp2_with fail
    refine HG1.out.mono ?_
    rintro e w1 ⟨rfl, h1⟩
    subst h1
    clear HG1
    go_wp2_with fail
    refine HO1.out.mono ?_
    rintro e w2 ⟨x, rfl, hx, h2⟩
    obtain ⟨xs, hxo, hxl, hxt⟩ := HI.out.ex
    have hf2 := h2.fr
    have HO2 : Hid (OwnG 73 1 poE w2 w.heap.size (.slice ao i cap) xs) := hxo.fd hf2 (by decide) (by decide)
    have HT2 : Hid (T2 (R w2) xs (listD one i s).1) := hxt.imp (fun x y h => HR.out _ _ _ _ h (hf2.rz _))
    have HX2 : Hid (R w2 x (one (listD one i s).2).1) := hx
    have HD2 : Hid (Dt B kb raw im en q p g w (one (listD one i s).2).2 w2) := h2.since HI.out.dt.fr
    have HN : Hid (listD one (i + 1) s = ((listD one i s).1 ++ [(one (listD one i s).2).1], (one (listD one i s).2).2)) := listD_next one i s hg
    have HXl := Lib.hid hxl
    clear hx h2 hf2 hxo hxl hxt HO1 HI
    obtain ⟨W, hW⟩ : ∃ W, W = w2.alloc (.cells (poE x).toArray 73) := ⟨_, rfl⟩
    have hlow : Below w2.heap.size w2 W := by rw [hW]; exact (Below.refl _ _).alloc (Nat.le_refl _) _
    have HG3 : Hid (W.heap[w2.heap.size]? = some (.cells (poE x).toArray 73 (0, 0))) := by rw [hW]; exact heap_alloc_new w2 _
    have HO3 : Hid (OwnG 73 1 poE W w.heap.size (.slice ao i cap) xs) := HO2.out.below hlow
    have HT3 : Hid (T2 (R W) xs (listD one i s).1) := HT2.out.imp (fun x y h => HR.out _ _ _ _ h (Rz.of_below hlow))
    have HX3 : Hid (R W x (one (listD one i s).2).1) := HR.out _ _ _ _ HX2.out (Rz.of_below hlow)
    have HD3 : Hid (Dt B kb raw im en q p g w (one (listD one i s).2).2 W) := HD2.out.below hlow
    have HS3 : Hid (w.heap.size ≤ W.heap.size) := Nat.le_trans HD2.out.fr.size hlow.size
    subst hW
    simp only [poE]
    clear hlow HO2 HT2 HX2 HD2
    go_wp2_with (at_builtin; refine wpList_appG (enc := poE) (x := x) (xs := xs) rfl 31 73 (.tmp 16) (.tmp 19) rfl 1 8 _ Tryz.underlying31 infoPo (by decide) rfl (by decide) po_ok (by rfl) HO3.out (by rfl) HG3.out (by rw [HXl.out]; omega) HS3.out ?_)
    intro va vc w4 HO4 HG4
    have HI4 : Hid (Lst 73 1 poE R one B kb raw im en q p g w s (.slice va (i + 1) vc) (i + 1) w4) := by
     obtain ⟨_, _, _, _, _, hrow⟩ := HO3.out.form
     have hg9 := HG4.out
     refine ⟨⟨xs ++ [x], ?_, by rw [List.length_append, HXl.out]; rfl, ?_⟩, ?_⟩
     ·have := HO4.out
      rw [HXl.out] at this
      exact this
     ·rw [HN.out]
      exact (HT3.out.snoc HX3.out).imp (fun x y h => HR.out _ _ _ _ h (Rz.grown hg9 (fun k e => (hrow k e).2.2)))
     ·rw [HN.out]
      exact HD3.out.grown hg9 (fun k e => ⟨(hrow k e).1, (hrow k e).2.2⟩) (by decide) (by decide) (by decide)
    rw [HXl.out]
    clear HO4 HG4 HO3 HT3 HX3 HD3 HG3 HN HXl
    go_wp2_with fail
    go_roundw
    case rel => exact ⟨i + 1, va, vc, by omega, rfl, HI4⟩
    case measure => simp [lenOf]; omega
   ·rw [show goD (listD one i s).2 = false by simpa using hg] at HG1
    go_wp2_with fail
    refine HG1.out.mono ?_
    rintro e w1 ⟨rfl, h1⟩
    subst h1
    clear HG1
    go_wp2_with fail
    go_ret
    rw [listD_stop one i s hg n hi]
    obtain ⟨xs, hxo, hxl, hxt⟩ := HI.out.ex
    first | exact ⟨_, xs, rfl, hxo, hxt, HI.out.dt⟩ | exact ⟨_, rfl, xs, hxo, hxt, HI.out.dt⟩
  ·obtain rfl : i = n := by omega
   have ji : ¬ (i : Int) < (i : Int) := by omega
   go_wp2_with fail
   go_ret
   obtain ⟨xs, hxo, hxl, hxt⟩ := HI.out.ex
   first | exact ⟨_, xs, rfl, hxo, hxt, HI.out.dt⟩ | exact ⟨_, rfl, xs, hxo, hxt, HI.out.dt⟩
end
theorem infoGd : (Tryz.prog.info? 75).map (fun i => (i.zero, i.size, i.bytes)) = some (some (.agg #[.int .u64 0, .int .u64 0, .int .u8 0, .string ⟨#[]⟩]), 4, 40) := by kernel_rfl
section
variable {B kb : Nat} {raw : Value} {im en : List Value} {q : Pt} {p g : Nat} {s : D} {w : World}
set_option maxRecDepth 100000 in
set_option maxHeartbeats 4000000 in
theorem listGdX {α : Type} {R : World → Gd → α → Prop} (hR : ∀ W W' x y, R W x y → Rz 75 W W' → R W' x y) (one : D → α × D) (hone : ∀ W t, Dt B kb raw im en q p g W t W → Fd B w W → Calls Tryz.prog 97 #[.pointer (some ⟨kb, 0, none⟩)] W fun e w' => ∃ x, e = .returned (.agg (gdE x).toArray) ∧ R w' x (one t).1 ∧ Dt B kb raw im en q p g W (one t).2 w') (h : Dt B kb raw im en q p g w s w) {n : Nat} (hn : n ≤ 1048576) :
  Calls Tryz.prog 96 #[.pointer (some ⟨kb, 0, none⟩), .int .i64 (n : Int), (.func (.func 97) #[.pointer (some ⟨kb, 0, none⟩)] #[])] w fun e w' => ∃ v xs, e = .returned v ∧ OwnG 75 4 gdE w' w.heap.size v xs ∧ T2 (R w') xs (listD one n s).1 ∧ Dt B kb raw im en q p g w (listD one n s).2 w' := by
 have H0 : Hid (Lst 75 4 gdE R one B kb raw im en q p g w s (.slice none 0 0) 0 w) := ⟨⟨[], OwnG.nil _ _ _ _ _, rfl, .nil⟩, h⟩
 have HOne : Hid (∀ W t, Dt B kb raw im en q p g W t W → Fd B w W → Calls Tryz.prog 97 #[.pointer (some ⟨kb, 0, none⟩)] W fun e w' => ∃ x, e = .returned (.agg (gdE x).toArray) ∧ R w' x (one t).1 ∧ Dt B kb raw im en q p g W (one t).2 w') := hone
 have HR : Hid (∀ W W' x y, R W x y → Rz 75 W W' → R W' x y) := hR
 have HGo : Hid (∀ W s', Dt B kb raw im en q p g w s' W → Calls Tryz.prog 121 #[.pointer (some ⟨kb, 0, none⟩)] W fun e w' => e = .returned (.bool (goD s')) ∧ w' = W) := fun W s' hW => dgoesX hW
 have HLt : Hid (kb < w.heap.size) := h.lt
 clear hone hR h
 go_enter Tryz.func96, Tryz.ntmps96
 go_wp2_with fail
 go_loopw [7] (fun v wr => ∃ (i : Nat) (ao : Option Addr) (cap : Nat), i ≤ n ∧ v = .slice ao i cap ∧ Hid (Lst 75 4 gdE R one B kb raw im en q p g w s (.slice ao i cap) i wr)) (fun v _ => n - lenOf v)
 case atStart => exact ⟨0, none, 0, Nat.zero_le _, rfl, H0⟩
 case round =>
  clear H0
  obtain ⟨i, ao, cap, hi, rfl, HI⟩ := hrel
  by_cases hin : i < n
  ·have ji : (i : Int) < (n : Int) := by omega
   have HG1 := Lib.hid (HGo.out _ _ HI.out.dt)
   by_cases hg : goD (listD one i s).2 = true
   ·rw [hg] at HG1
    have HO1 := Lib.hid (HOne.out _ _ HI.out.dt.here HI.out.dt.fr)
    clear HOne HGo
    go_wp2_with fail
    refine HG1.out.mono ?_
    rintro e w1 ⟨rfl, h1⟩
    subst h1
    clear HG1
    go_wp2_with fail
    refine HO1.out.mono ?_
    rintro e w2 ⟨x, rfl, hx, h2⟩
    obtain ⟨xs, hxo, hxl, hxt⟩ := HI.out.ex
    have hf2 := h2.fr
    have HO2 : Hid (OwnG 75 4 gdE w2 w.heap.size (.slice ao i cap) xs) := hxo.fd hf2 (by decide) (by decide)
    have HT2 : Hid (T2 (R w2) xs (listD one i s).1) := hxt.imp (fun x y h => HR.out _ _ _ _ h (hf2.rz _))
    have HX2 : Hid (R w2 x (one (listD one i s).2).1) := hx
    have HD2 : Hid (Dt B kb raw im en q p g w (one (listD one i s).2).2 w2) := h2.since HI.out.dt.fr
    have HN : Hid (listD one (i + 1) s = ((listD one i s).1 ++ [(one (listD one i s).2).1], (one (listD one i s).2).2)) := listD_next one i s hg
    have HXl := Lib.hid hxl
    clear hx h2 hf2 hxo hxl hxt HO1 HI
    obtain ⟨W, hW⟩ : ∃ W, W = w2.alloc (.cells (gdE x).toArray 75) := ⟨_, rfl⟩
    have hlow : Below w2.heap.size w2 W := by rw [hW]; exact (Below.refl _ _).alloc (Nat.le_refl _) _
    have HG3 : Hid (W.heap[w2.heap.size]? = some (.cells (gdE x).toArray 75 (0, 0))) := by rw [hW]; exact heap_alloc_new w2 _
    have HO3 : Hid (OwnG 75 4 gdE W w.heap.size (.slice ao i cap) xs) := HO2.out.below hlow
    have HT3 : Hid (T2 (R W) xs (listD one i s).1) := HT2.out.imp (fun x y h => HR.out _ _ _ _ h (Rz.of_below hlow))
    have HX3 : Hid (R W x (one (listD one i s).2).1) := HR.out _ _ _ _ HX2.out (Rz.of_below hlow)
    have HD3 : Hid (Dt B kb raw im en q p g w (one (listD one i s).2).2 W) := HD2.out.below hlow
    have HS3 : Hid (w.heap.size ≤ W.heap.size) := Nat.le_trans HD2.out.fr.size hlow.size
    subst hW
    simp only [gdE]
    clear hlow HO2 HT2 HX2 HD2
    go_wp2_with (at_builtin; refine wpList_appG (enc := gdE) (x := x) (xs := xs) rfl 32 75 (.tmp 16) (.tmp 19) rfl 4 40 _ Tryz.underlying32 infoGd (by decide) rfl (by decide) gd_ok (by rfl) HO3.out (by rfl) HG3.out (by rw [HXl.out]; omega) HS3.out ?_)
    intro va vc w4 HO4 HG4
    have HI4 : Hid (Lst 75 4 gdE R one B kb raw im en q p g w s (.slice va (i + 1) vc) (i + 1) w4) := by
     obtain ⟨_, _, _, _, _, hrow⟩ := HO3.out.form
     have hg9 := HG4.out
     refine ⟨⟨xs ++ [x], ?_, by rw [List.length_append, HXl.out]; rfl, ?_⟩, ?_⟩
     ·have := HO4.out
      rw [HXl.out] at this
      exact this
     ·rw [HN.out]
      exact (HT3.out.snoc HX3.out).imp (fun x y h => HR.out _ _ _ _ h (Rz.grown hg9 (fun k e => (hrow k e).2.2)))
     ·rw [HN.out]
      exact HD3.out.grown hg9 (fun k e => ⟨(hrow k e).1, (hrow k e).2.2⟩) (by decide) (by decide) (by decide)
    rw [HXl.out]
    clear HO4 HG4 HO3 HT3 HX3 HD3 HG3 HN HXl
    go_wp2_with fail
    go_roundw
    case rel => exact ⟨i + 1, va, vc, by omega, rfl, HI4⟩
    case measure => simp [lenOf]; omega
   ·rw [show goD (listD one i s).2 = false by simpa using hg] at HG1
    go_wp2_with fail
    refine HG1.out.mono ?_
    rintro e w1 ⟨rfl, h1⟩
    subst h1
    clear HG1
    go_wp2_with fail
    go_ret
    rw [listD_stop one i s hg n hi]
    obtain ⟨xs, hxo, hxl, hxt⟩ := HI.out.ex
    first | exact ⟨_, xs, rfl, hxo, hxt, HI.out.dt⟩ | exact ⟨_, rfl, xs, hxo, hxt, HI.out.dt⟩
  ·obtain rfl : i = n := by omega
   have ji : ¬ (i : Int) < (i : Int) := by omega
   go_wp2_with fail
   go_ret
   obtain ⟨xs, hxo, hxl, hxt⟩ := HI.out.ex
   first | exact ⟨_, xs, rfl, hxo, hxt, HI.out.dt⟩ | exact ⟨_, rfl, xs, hxo, hxt, HI.out.dt⟩
end
theorem infoCh : (Tryz.prog.info? 81).map (fun i => (i.zero, i.size, i.bytes)) = some (some (.agg #[.int .i64 0, .int .i64 0, .int .i64 0, .int .i64 0, .bool false]), 5, 40) := by kernel_rfl
section
variable {B kb : Nat} {raw : Value} {im en : List Value} {q : Pt} {p g : Nat} {s : D} {w : World}
set_option maxRecDepth 100000 in
set_option maxHeartbeats 4000000 in
theorem listChX {α : Type} {R : World → Lk → α → Prop} (hR : ∀ W W' x y, R W x y → Rz 81 W W' → R W' x y) (one : D → α × D) (hone : ∀ W t, Dt B kb raw im en q p g W t W → Fd B w W → Calls Tryz.prog 99 #[.pointer (some ⟨kb, 0, none⟩)] W fun e w' => ∃ x, e = .returned (.agg (lkE x).toArray) ∧ R w' x (one t).1 ∧ Dt B kb raw im en q p g W (one t).2 w') (h : Dt B kb raw im en q p g w s w) {n : Nat} (hn : n ≤ 1048576) :
  Calls Tryz.prog 98 #[.pointer (some ⟨kb, 0, none⟩), .int .i64 (n : Int), (.func (.func 99) #[.pointer (some ⟨kb, 0, none⟩)] #[])] w fun e w' => ∃ v xs, e = .returned v ∧ OwnG 81 5 lkE w' w.heap.size v xs ∧ T2 (R w') xs (listD one n s).1 ∧ Dt B kb raw im en q p g w (listD one n s).2 w' := by
 have H0 : Hid (Lst 81 5 lkE R one B kb raw im en q p g w s (.slice none 0 0) 0 w) := ⟨⟨[], OwnG.nil _ _ _ _ _, rfl, .nil⟩, h⟩
 have HOne : Hid (∀ W t, Dt B kb raw im en q p g W t W → Fd B w W → Calls Tryz.prog 99 #[.pointer (some ⟨kb, 0, none⟩)] W fun e w' => ∃ x, e = .returned (.agg (lkE x).toArray) ∧ R w' x (one t).1 ∧ Dt B kb raw im en q p g W (one t).2 w') := hone
 have HR : Hid (∀ W W' x y, R W x y → Rz 81 W W' → R W' x y) := hR
 have HGo : Hid (∀ W s', Dt B kb raw im en q p g w s' W → Calls Tryz.prog 121 #[.pointer (some ⟨kb, 0, none⟩)] W fun e w' => e = .returned (.bool (goD s')) ∧ w' = W) := fun W s' hW => dgoesX hW
 have HLt : Hid (kb < w.heap.size) := h.lt
 clear hone hR h
 go_enter Tryz.func98, Tryz.ntmps98
 go_wp2_with fail
 go_loopw [7] (fun v wr => ∃ (i : Nat) (ao : Option Addr) (cap : Nat), i ≤ n ∧ v = .slice ao i cap ∧ Hid (Lst 81 5 lkE R one B kb raw im en q p g w s (.slice ao i cap) i wr)) (fun v _ => n - lenOf v)
 case atStart => exact ⟨0, none, 0, Nat.zero_le _, rfl, H0⟩
 case round =>
  clear H0
  obtain ⟨i, ao, cap, hi, rfl, HI⟩ := hrel
  by_cases hin : i < n
  ·have ji : (i : Int) < (n : Int) := by omega
   have HG1 := Lib.hid (HGo.out _ _ HI.out.dt)
   by_cases hg : goD (listD one i s).2 = true
   ·rw [hg] at HG1
    have HO1 := Lib.hid (HOne.out _ _ HI.out.dt.here HI.out.dt.fr)
    clear HOne HGo
    go_wp2_with fail
    refine HG1.out.mono ?_
    rintro e w1 ⟨rfl, h1⟩
    subst h1
    clear HG1
    go_wp2_with fail
    refine HO1.out.mono ?_
    rintro e w2 ⟨x, rfl, hx, h2⟩
    obtain ⟨xs, hxo, hxl, hxt⟩ := HI.out.ex
    have hf2 := h2.fr
    have HO2 : Hid (OwnG 81 5 lkE w2 w.heap.size (.slice ao i cap) xs) := hxo.fd hf2 (by decide) (by decide)
    have HT2 : Hid (T2 (R w2) xs (listD one i s).1) := hxt.imp (fun x y h => HR.out _ _ _ _ h (hf2.rz _))
    have HX2 : Hid (R w2 x (one (listD one i s).2).1) := hx
    have HD2 : Hid (Dt B kb raw im en q p g w (one (listD one i s).2).2 w2) := h2.since HI.out.dt.fr
    have HN : Hid (listD one (i + 1) s = ((listD one i s).1 ++ [(one (listD one i s).2).1], (one (listD one i s).2).2)) := listD_next one i s hg
    have HXl := Lib.hid hxl
    clear hx h2 hf2 hxo hxl hxt HO1 HI
    obtain ⟨W, hW⟩ : ∃ W, W = w2.alloc (.cells (lkE x).toArray 81) := ⟨_, rfl⟩
    have hlow : Below w2.heap.size w2 W := by rw [hW]; exact (Below.refl _ _).alloc (Nat.le_refl _) _
    have HG3 : Hid (W.heap[w2.heap.size]? = some (.cells (lkE x).toArray 81 (0, 0))) := by rw [hW]; exact heap_alloc_new w2 _
    have HO3 : Hid (OwnG 81 5 lkE W w.heap.size (.slice ao i cap) xs) := HO2.out.below hlow
    have HT3 : Hid (T2 (R W) xs (listD one i s).1) := HT2.out.imp (fun x y h => HR.out _ _ _ _ h (Rz.of_below hlow))
    have HX3 : Hid (R W x (one (listD one i s).2).1) := HR.out _ _ _ _ HX2.out (Rz.of_below hlow)
    have HD3 : Hid (Dt B kb raw im en q p g w (one (listD one i s).2).2 W) := HD2.out.below hlow
    have HS3 : Hid (w.heap.size ≤ W.heap.size) := Nat.le_trans HD2.out.fr.size hlow.size
    subst hW
    simp only [lkE]
    clear hlow HO2 HT2 HX2 HD2
    go_wp2_with (at_builtin; refine wpList_appG (enc := lkE) (x := x) (xs := xs) rfl 33 81 (.tmp 16) (.tmp 19) rfl 5 40 _ Tryz.underlying33 infoCh (by decide) rfl (by decide) lk_ok (by rfl) HO3.out (by rfl) HG3.out (by rw [HXl.out]; omega) HS3.out ?_)
    intro va vc w4 HO4 HG4
    have HI4 : Hid (Lst 81 5 lkE R one B kb raw im en q p g w s (.slice va (i + 1) vc) (i + 1) w4) := by
     obtain ⟨_, _, _, _, _, hrow⟩ := HO3.out.form
     have hg9 := HG4.out
     refine ⟨⟨xs ++ [x], ?_, by rw [List.length_append, HXl.out]; rfl, ?_⟩, ?_⟩
     ·have := HO4.out
      rw [HXl.out] at this
      exact this
     ·rw [HN.out]
      exact (HT3.out.snoc HX3.out).imp (fun x y h => HR.out _ _ _ _ h (Rz.grown hg9 (fun k e => (hrow k e).2.2)))
     ·rw [HN.out]
      exact HD3.out.grown hg9 (fun k e => ⟨(hrow k e).1, (hrow k e).2.2⟩) (by decide) (by decide) (by decide)
    rw [HXl.out]
    clear HO4 HG4 HO3 HT3 HX3 HD3 HG3 HN HXl
    go_wp2_with fail
    go_roundw
    case rel => exact ⟨i + 1, va, vc, by omega, rfl, HI4⟩
    case measure => simp [lenOf]; omega
   ·rw [show goD (listD one i s).2 = false by simpa using hg] at HG1
    go_wp2_with fail
    refine HG1.out.mono ?_
    rintro e w1 ⟨rfl, h1⟩
    subst h1
    clear HG1
    go_wp2_with fail
    go_ret
    rw [listD_stop one i s hg n hi]
    obtain ⟨xs, hxo, hxl, hxt⟩ := HI.out.ex
    first | exact ⟨_, xs, rfl, hxo, hxt, HI.out.dt⟩ | exact ⟨_, rfl, xs, hxo, hxt, HI.out.dt⟩
  ·obtain rfl : i = n := by omega
   have ji : ¬ (i : Int) < (i : Int) := by omega
   go_wp2_with fail
   go_ret
   obtain ⟨xs, hxo, hxl, hxt⟩ := HI.out.ex
   first | exact ⟨_, xs, rfl, hxo, hxt, HI.out.dt⟩ | exact ⟨_, rfl, xs, hxo, hxt, HI.out.dt⟩
end
section
variable {B kb : Nat} {raw : Value} {im en : List Value} {q : Pt} {p g : Nat} {s : D} {w : World}
set_option maxRecDepth 100000 in
set_option maxHeartbeats 4000000 in
theorem listIqX {α : Type} {R : World → Lk → α → Prop} (hR : ∀ W W' x y, R W x y → Rz 81 W W' → R W' x y) (one : D → α × D) (hone : ∀ W t, Dt B kb raw im en q p g W t W → Fd B w W → Calls Tryz.prog 100 #[.pointer (some ⟨kb, 0, none⟩)] W fun e w' => ∃ x, e = .returned (.agg (lkE x).toArray) ∧ R w' x (one t).1 ∧ Dt B kb raw im en q p g W (one t).2 w') (h : Dt B kb raw im en q p g w s w) {n : Nat} (hn : n ≤ 1048576) :
  Calls Tryz.prog 98 #[.pointer (some ⟨kb, 0, none⟩), .int .i64 (n : Int), (.func (.func 100) #[.pointer (some ⟨kb, 0, none⟩)] #[])] w fun e w' => ∃ v xs, e = .returned v ∧ OwnG 81 5 lkE w' w.heap.size v xs ∧ T2 (R w') xs (listD one n s).1 ∧ Dt B kb raw im en q p g w (listD one n s).2 w' := by
 have H0 : Hid (Lst 81 5 lkE R one B kb raw im en q p g w s (.slice none 0 0) 0 w) := ⟨⟨[], OwnG.nil _ _ _ _ _, rfl, .nil⟩, h⟩
 have HOne : Hid (∀ W t, Dt B kb raw im en q p g W t W → Fd B w W → Calls Tryz.prog 100 #[.pointer (some ⟨kb, 0, none⟩)] W fun e w' => ∃ x, e = .returned (.agg (lkE x).toArray) ∧ R w' x (one t).1 ∧ Dt B kb raw im en q p g W (one t).2 w') := hone
 have HR : Hid (∀ W W' x y, R W x y → Rz 81 W W' → R W' x y) := hR
 have HGo : Hid (∀ W s', Dt B kb raw im en q p g w s' W → Calls Tryz.prog 121 #[.pointer (some ⟨kb, 0, none⟩)] W fun e w' => e = .returned (.bool (goD s')) ∧ w' = W) := fun W s' hW => dgoesX hW
 have HLt : Hid (kb < w.heap.size) := h.lt
 clear hone hR h
 go_enter Tryz.func98, Tryz.ntmps98
 go_wp2_with fail
 go_loopw [7] (fun v wr => ∃ (i : Nat) (ao : Option Addr) (cap : Nat), i ≤ n ∧ v = .slice ao i cap ∧ Hid (Lst 81 5 lkE R one B kb raw im en q p g w s (.slice ao i cap) i wr)) (fun v _ => n - lenOf v)
 case atStart => exact ⟨0, none, 0, Nat.zero_le _, rfl, H0⟩
 case round =>
  clear H0
  obtain ⟨i, ao, cap, hi, rfl, HI⟩ := hrel
  by_cases hin : i < n
  ·have ji : (i : Int) < (n : Int) := by omega
   have HG1 := Lib.hid (HGo.out _ _ HI.out.dt)
   by_cases hg : goD (listD one i s).2 = true
   ·rw [hg] at HG1
    have HO1 := Lib.hid (HOne.out _ _ HI.out.dt.here HI.out.dt.fr)
    clear HOne HGo
    go_wp2_with fail
    refine HG1.out.mono ?_
    rintro e w1 ⟨rfl, h1⟩
    subst h1
    clear HG1
    go_wp2_with fail
    refine HO1.out.mono ?_
    rintro e w2 ⟨x, rfl, hx, h2⟩
    obtain ⟨xs, hxo, hxl, hxt⟩ := HI.out.ex
    have hf2 := h2.fr
    have HO2 : Hid (OwnG 81 5 lkE w2 w.heap.size (.slice ao i cap) xs) := hxo.fd hf2 (by decide) (by decide)
    have HT2 : Hid (T2 (R w2) xs (listD one i s).1) := hxt.imp (fun x y h => HR.out _ _ _ _ h (hf2.rz _))
    have HX2 : Hid (R w2 x (one (listD one i s).2).1) := hx
    have HD2 : Hid (Dt B kb raw im en q p g w (one (listD one i s).2).2 w2) := h2.since HI.out.dt.fr
    have HN : Hid (listD one (i + 1) s = ((listD one i s).1 ++ [(one (listD one i s).2).1], (one (listD one i s).2).2)) := listD_next one i s hg
    have HXl := Lib.hid hxl
    clear hx h2 hf2 hxo hxl hxt HO1 HI
    obtain ⟨W, hW⟩ : ∃ W, W = w2.alloc (.cells (lkE x).toArray 81) := ⟨_, rfl⟩
    have hlow : Below w2.heap.size w2 W := by rw [hW]; exact (Below.refl _ _).alloc (Nat.le_refl _) _
    have HG3 : Hid (W.heap[w2.heap.size]? = some (.cells (lkE x).toArray 81 (0, 0))) := by rw [hW]; exact heap_alloc_new w2 _
    have HO3 : Hid (OwnG 81 5 lkE W w.heap.size (.slice ao i cap) xs) := HO2.out.below hlow
    have HT3 : Hid (T2 (R W) xs (listD one i s).1) := HT2.out.imp (fun x y h => HR.out _ _ _ _ h (Rz.of_below hlow))
    have HX3 : Hid (R W x (one (listD one i s).2).1) := HR.out _ _ _ _ HX2.out (Rz.of_below hlow)
    have HD3 : Hid (Dt B kb raw im en q p g w (one (listD one i s).2).2 W) := HD2.out.below hlow
    have HS3 : Hid (w.heap.size ≤ W.heap.size) := Nat.le_trans HD2.out.fr.size hlow.size
    subst hW
    simp only [lkE]
    clear hlow HO2 HT2 HX2 HD2
    go_wp2_with (at_builtin; refine wpList_appG (enc := lkE) (x := x) (xs := xs) rfl 33 81 (.tmp 16) (.tmp 19) rfl 5 40 _ Tryz.underlying33 infoCh (by decide) rfl (by decide) lk_ok (by rfl) HO3.out (by rfl) HG3.out (by rw [HXl.out]; omega) HS3.out ?_)
    intro va vc w4 HO4 HG4
    have HI4 : Hid (Lst 81 5 lkE R one B kb raw im en q p g w s (.slice va (i + 1) vc) (i + 1) w4) := by
     obtain ⟨_, _, _, _, _, hrow⟩ := HO3.out.form
     have hg9 := HG4.out
     refine ⟨⟨xs ++ [x], ?_, by rw [List.length_append, HXl.out]; rfl, ?_⟩, ?_⟩
     ·have := HO4.out
      rw [HXl.out] at this
      exact this
     ·rw [HN.out]
      exact (HT3.out.snoc HX3.out).imp (fun x y h => HR.out _ _ _ _ h (Rz.grown hg9 (fun k e => (hrow k e).2.2)))
     ·rw [HN.out]
      exact HD3.out.grown hg9 (fun k e => ⟨(hrow k e).1, (hrow k e).2.2⟩) (by decide) (by decide) (by decide)
    rw [HXl.out]
    clear HO4 HG4 HO3 HT3 HX3 HD3 HG3 HN HXl
    go_wp2_with fail
    go_roundw
    case rel => exact ⟨i + 1, va, vc, by omega, rfl, HI4⟩
    case measure => simp [lenOf]; omega
   ·rw [show goD (listD one i s).2 = false by simpa using hg] at HG1
    go_wp2_with fail
    refine HG1.out.mono ?_
    rintro e w1 ⟨rfl, h1⟩
    subst h1
    clear HG1
    go_wp2_with fail
    go_ret
    rw [listD_stop one i s hg n hi]
    obtain ⟨xs, hxo, hxl, hxt⟩ := HI.out.ex
    first | exact ⟨_, xs, rfl, hxo, hxt, HI.out.dt⟩ | exact ⟨_, rfl, xs, hxo, hxt, HI.out.dt⟩
  ·obtain rfl : i = n := by omega
   have ji : ¬ (i : Int) < (i : Int) := by omega
   go_wp2_with fail
   go_ret
   obtain ⟨xs, hxo, hxl, hxt⟩ := HI.out.ex
   first | exact ⟨_, xs, rfl, hxo, hxt, HI.out.dt⟩ | exact ⟨_, rfl, xs, hxo, hxt, HI.out.dt⟩
end
theorem infoSt : (Tryz.prog.info? 83).map (fun i => (i.zero, i.size, i.bytes)) = some (some (.agg #[.int .i64 0, .int .i64 0]), 2, 16) := by kernel_rfl
section
variable {B kb : Nat} {raw : Value} {im en : List Value} {q : Pt} {p g : Nat} {s : D} {w : World}
set_option maxRecDepth 100000 in
set_option maxHeartbeats 4000000 in
theorem listStX {α : Type} {R : World → (Int × Int) → α → Prop} (hR : ∀ W W' x y, R W x y → Rz 83 W W' → R W' x y) (one : D → α × D) (hone : ∀ W t, Dt B kb raw im en q p g W t W → Fd B w W → Calls Tryz.prog 127 #[.pointer (some ⟨kb, 0, none⟩)] W fun e w' => ∃ x, e = .returned (.agg (stE x).toArray) ∧ R w' x (one t).1 ∧ Dt B kb raw im en q p g W (one t).2 w') (h : Dt B kb raw im en q p g w s w) {n : Nat} (hn : n ≤ 1048576) :
  Calls Tryz.prog 126 #[.pointer (some ⟨kb, 0, none⟩), .int .i64 (n : Int), (.func (.func 127) #[.pointer (some ⟨kb, 0, none⟩)] #[])] w fun e w' => ∃ v xs, e = .returned v ∧ OwnG 83 2 stE w' w.heap.size v xs ∧ T2 (R w') xs (listD one n s).1 ∧ Dt B kb raw im en q p g w (listD one n s).2 w' := by
 have H0 : Hid (Lst 83 2 stE R one B kb raw im en q p g w s (.slice none 0 0) 0 w) := ⟨⟨[], OwnG.nil _ _ _ _ _, rfl, .nil⟩, h⟩
 have HOne : Hid (∀ W t, Dt B kb raw im en q p g W t W → Fd B w W → Calls Tryz.prog 127 #[.pointer (some ⟨kb, 0, none⟩)] W fun e w' => ∃ x, e = .returned (.agg (stE x).toArray) ∧ R w' x (one t).1 ∧ Dt B kb raw im en q p g W (one t).2 w') := hone
 have HR : Hid (∀ W W' x y, R W x y → Rz 83 W W' → R W' x y) := hR
 have HGo : Hid (∀ W s', Dt B kb raw im en q p g w s' W → Calls Tryz.prog 121 #[.pointer (some ⟨kb, 0, none⟩)] W fun e w' => e = .returned (.bool (goD s')) ∧ w' = W) := fun W s' hW => dgoesX hW
 have HLt : Hid (kb < w.heap.size) := h.lt
 clear hone hR h
 go_enter Tryz.func126, Tryz.ntmps126
 go_wp2_with fail
 go_loopw [7] (fun v wr => ∃ (i : Nat) (ao : Option Addr) (cap : Nat), i ≤ n ∧ v = .slice ao i cap ∧ Hid (Lst 83 2 stE R one B kb raw im en q p g w s (.slice ao i cap) i wr)) (fun v _ => n - lenOf v)
 case atStart => exact ⟨0, none, 0, Nat.zero_le _, rfl, H0⟩
 case round =>
  clear H0
  obtain ⟨i, ao, cap, hi, rfl, HI⟩ := hrel
  by_cases hin : i < n
  ·have ji : (i : Int) < (n : Int) := by omega
   have HG1 := Lib.hid (HGo.out _ _ HI.out.dt)
   by_cases hg : goD (listD one i s).2 = true
   ·rw [hg] at HG1
    have HO1 := Lib.hid (HOne.out _ _ HI.out.dt.here HI.out.dt.fr)
    clear HOne HGo
    go_wp2_with fail
    refine HG1.out.mono ?_
    rintro e w1 ⟨rfl, h1⟩
    subst h1
    clear HG1
    go_wp2_with fail
    refine HO1.out.mono ?_
    rintro e w2 ⟨x, rfl, hx, h2⟩
    obtain ⟨xs, hxo, hxl, hxt⟩ := HI.out.ex
    have hf2 := h2.fr
    have HO2 : Hid (OwnG 83 2 stE w2 w.heap.size (.slice ao i cap) xs) := hxo.fd hf2 (by decide) (by decide)
    have HT2 : Hid (T2 (R w2) xs (listD one i s).1) := hxt.imp (fun x y h => HR.out _ _ _ _ h (hf2.rz _))
    have HX2 : Hid (R w2 x (one (listD one i s).2).1) := hx
    have HD2 : Hid (Dt B kb raw im en q p g w (one (listD one i s).2).2 w2) := h2.since HI.out.dt.fr
    have HN : Hid (listD one (i + 1) s = ((listD one i s).1 ++ [(one (listD one i s).2).1], (one (listD one i s).2).2)) := listD_next one i s hg
    have HXl := Lib.hid hxl
    clear hx h2 hf2 hxo hxl hxt HO1 HI
    obtain ⟨W, hW⟩ : ∃ W, W = w2.alloc (.cells (stE x).toArray 83) := ⟨_, rfl⟩
    have hlow : Below w2.heap.size w2 W := by rw [hW]; exact (Below.refl _ _).alloc (Nat.le_refl _) _
    have HG3 : Hid (W.heap[w2.heap.size]? = some (.cells (stE x).toArray 83 (0, 0))) := by rw [hW]; exact heap_alloc_new w2 _
    have HO3 : Hid (OwnG 83 2 stE W w.heap.size (.slice ao i cap) xs) := HO2.out.below hlow
    have HT3 : Hid (T2 (R W) xs (listD one i s).1) := HT2.out.imp (fun x y h => HR.out _ _ _ _ h (Rz.of_below hlow))
    have HX3 : Hid (R W x (one (listD one i s).2).1) := HR.out _ _ _ _ HX2.out (Rz.of_below hlow)
    have HD3 : Hid (Dt B kb raw im en q p g w (one (listD one i s).2).2 W) := HD2.out.below hlow
    have HS3 : Hid (w.heap.size ≤ W.heap.size) := Nat.le_trans HD2.out.fr.size hlow.size
    subst hW
    simp only [stE]
    clear hlow HO2 HT2 HX2 HD2
    go_wp2_with (at_builtin; refine wpList_appG (enc := stE) (x := x) (xs := xs) rfl 84 83 (.tmp 16) (.tmp 19) rfl 2 16 _ Tryz.underlying84 infoSt (by decide) rfl (by decide) st_ok (by rfl) HO3.out (by rfl) HG3.out (by rw [HXl.out]; omega) HS3.out ?_)
    intro va vc w4 HO4 HG4
    have HI4 : Hid (Lst 83 2 stE R one B kb raw im en q p g w s (.slice va (i + 1) vc) (i + 1) w4) := by
     obtain ⟨_, _, _, _, _, hrow⟩ := HO3.out.form
     have hg9 := HG4.out
     refine ⟨⟨xs ++ [x], ?_, by rw [List.length_append, HXl.out]; rfl, ?_⟩, ?_⟩
     ·have := HO4.out
      rw [HXl.out] at this
      exact this
     ·rw [HN.out]
      exact (HT3.out.snoc HX3.out).imp (fun x y h => HR.out _ _ _ _ h (Rz.grown hg9 (fun k e => (hrow k e).2.2)))
     ·rw [HN.out]
      exact HD3.out.grown hg9 (fun k e => ⟨(hrow k e).1, (hrow k e).2.2⟩) (by decide) (by decide) (by decide)
    rw [HXl.out]
    clear HO4 HG4 HO3 HT3 HX3 HD3 HG3 HN HXl
    go_wp2_with fail
    go_roundw
    case rel => exact ⟨i + 1, va, vc, by omega, rfl, HI4⟩
    case measure => simp [lenOf]; omega
   ·rw [show goD (listD one i s).2 = false by simpa using hg] at HG1
    go_wp2_with fail
    refine HG1.out.mono ?_
    rintro e w1 ⟨rfl, h1⟩
    subst h1
    clear HG1
    go_wp2_with fail
    go_ret
    rw [listD_stop one i s hg n hi]
    obtain ⟨xs, hxo, hxl, hxt⟩ := HI.out.ex
    first | exact ⟨_, xs, rfl, hxo, hxt, HI.out.dt⟩ | exact ⟨_, rfl, xs, hxo, hxt, HI.out.dt⟩
  ·obtain rfl : i = n := by omega
   have ji : ¬ (i : Int) < (i : Int) := by omega
   go_wp2_with fail
   go_ret
   obtain ⟨xs, hxo, hxl, hxt⟩ := HI.out.ex
   first | exact ⟨_, xs, rfl, hxo, hxt, HI.out.dt⟩ | exact ⟨_, rfl, xs, hxo, hxt, HI.out.dt⟩
end
theorem infoLa : (Tryz.prog.info? 84).map (fun i => (i.zero, i.size, i.bytes)) = some (some (.slice none 0 0), 1, 24) := by kernel_rfl
section
variable {B kb : Nat} {raw : Value} {im en : List Value} {q : Pt} {p g : Nat} {s : D} {w : World}
set_option maxRecDepth 100000 in
set_option maxHeartbeats 4000000 in
theorem listLaX {α : Type} {R : World → SlV → α → Prop} (hR : ∀ W W' x y, R W x y → Rz 84 W W' → R W' x y) (one : D → α × D) (hone : ∀ W t, Dt B kb raw im en q p g W t W → Fd B w W → Calls Tryz.prog 105 #[.pointer (some ⟨kb, 0, none⟩)] W fun e w' => ∃ x, e = .returned (slE1 x) ∧ R w' x (one t).1 ∧ Dt B kb raw im en q p g W (one t).2 w') (h : Dt B kb raw im en q p g w s w) {n : Nat} (hn : n ≤ 1048576) :
  Calls Tryz.prog 104 #[.pointer (some ⟨kb, 0, none⟩), .int .i64 (n : Int), (.func (.func 105) #[.pointer (some ⟨kb, 0, none⟩)] #[])] w fun e w' => ∃ v xs, e = .returned v ∧ OwnG 84 1 slE w' w.heap.size v xs ∧ T2 (R w') xs (listD one n s).1 ∧ Dt B kb raw im en q p g w (listD one n s).2 w' := by
 have H0 : Hid (Lst 84 1 slE R one B kb raw im en q p g w s (.slice none 0 0) 0 w) := ⟨⟨[], OwnG.nil _ _ _ _ _, rfl, .nil⟩, h⟩
 have HOne : Hid (∀ W t, Dt B kb raw im en q p g W t W → Fd B w W → Calls Tryz.prog 105 #[.pointer (some ⟨kb, 0, none⟩)] W fun e w' => ∃ x, e = .returned (slE1 x) ∧ R w' x (one t).1 ∧ Dt B kb raw im en q p g W (one t).2 w') := hone
 have HR : Hid (∀ W W' x y, R W x y → Rz 84 W W' → R W' x y) := hR
 have HGo : Hid (∀ W s', Dt B kb raw im en q p g w s' W → Calls Tryz.prog 121 #[.pointer (some ⟨kb, 0, none⟩)] W fun e w' => e = .returned (.bool (goD s')) ∧ w' = W) := fun W s' hW => dgoesX hW
 have HLt : Hid (kb < w.heap.size) := h.lt
 clear hone hR h
 go_enter Tryz.func104, Tryz.ntmps104
 go_wp2_with fail
 go_loopw [7] (fun v wr => ∃ (i : Nat) (ao : Option Addr) (cap : Nat), i ≤ n ∧ v = .slice ao i cap ∧ Hid (Lst 84 1 slE R one B kb raw im en q p g w s (.slice ao i cap) i wr)) (fun v _ => n - lenOf v)
 case atStart => exact ⟨0, none, 0, Nat.zero_le _, rfl, H0⟩
 case round =>
  clear H0
  obtain ⟨i, ao, cap, hi, rfl, HI⟩ := hrel
  by_cases hin : i < n
  ·have ji : (i : Int) < (n : Int) := by omega
   have HG1 := Lib.hid (HGo.out _ _ HI.out.dt)
   by_cases hg : goD (listD one i s).2 = true
   ·rw [hg] at HG1
    have HO1 := Lib.hid (HOne.out _ _ HI.out.dt.here HI.out.dt.fr)
    clear HOne HGo
    go_wp2_with fail
    refine HG1.out.mono ?_
    rintro e w1 ⟨rfl, h1⟩
    subst h1
    clear HG1
    go_wp2_with fail
    refine HO1.out.mono ?_
    rintro e w2 ⟨x, rfl, hx, h2⟩
    obtain ⟨xs, hxo, hxl, hxt⟩ := HI.out.ex
    have hf2 := h2.fr
    have HO2 : Hid (OwnG 84 1 slE w2 w.heap.size (.slice ao i cap) xs) := hxo.fd hf2 (by decide) (by decide)
    have HT2 : Hid (T2 (R w2) xs (listD one i s).1) := hxt.imp (fun x y h => HR.out _ _ _ _ h (hf2.rz _))
    have HX2 : Hid (R w2 x (one (listD one i s).2).1) := hx
    have HD2 : Hid (Dt B kb raw im en q p g w (one (listD one i s).2).2 w2) := h2.since HI.out.dt.fr
    have HN : Hid (listD one (i + 1) s = ((listD one i s).1 ++ [(one (listD one i s).2).1], (one (listD one i s).2).2)) := listD_next one i s hg
    have HXl := Lib.hid hxl
    clear hx h2 hf2 hxo hxl hxt HO1 HI
    obtain ⟨W, hW⟩ : ∃ W, W = w2.alloc (.cells (slE x).toArray 84) := ⟨_, rfl⟩
    have hlow : Below w2.heap.size w2 W := by rw [hW]; exact (Below.refl _ _).alloc (Nat.le_refl _) _
    have HG3 : Hid (W.heap[w2.heap.size]? = some (.cells (slE x).toArray 84 (0, 0))) := by rw [hW]; exact heap_alloc_new w2 _
    have HO3 : Hid (OwnG 84 1 slE W w.heap.size (.slice ao i cap) xs) := HO2.out.below hlow
    have HT3 : Hid (T2 (R W) xs (listD one i s).1) := HT2.out.imp (fun x y h => HR.out _ _ _ _ h (Rz.of_below hlow))
    have HX3 : Hid (R W x (one (listD one i s).2).1) := HR.out _ _ _ _ HX2.out (Rz.of_below hlow)
    have HD3 : Hid (Dt B kb raw im en q p g w (one (listD one i s).2).2 W) := HD2.out.below hlow
    have HS3 : Hid (w.heap.size ≤ W.heap.size) := Nat.le_trans HD2.out.fr.size hlow.size
    subst hW
    simp only [slE, slE1]
    clear hlow HO2 HT2 HX2 HD2
    go_wp2_with (at_builtin; refine wpList_appG (enc := slE) (x := x) (xs := xs) rfl 85 84 (.tmp 16) (.tmp 19) rfl 1 24 _ Tryz.underlying85 infoLa (by decide) rfl (by decide) sl_ok (by rfl) HO3.out (by rfl) HG3.out (by rw [HXl.out]; omega) HS3.out ?_)
    intro va vc w4 HO4 HG4
    have HI4 : Hid (Lst 84 1 slE R one B kb raw im en q p g w s (.slice va (i + 1) vc) (i + 1) w4) := by
     obtain ⟨_, _, _, _, _, hrow⟩ := HO3.out.form
     have hg9 := HG4.out
     refine ⟨⟨xs ++ [x], ?_, by rw [List.length_append, HXl.out]; rfl, ?_⟩, ?_⟩
     ·have := HO4.out
      rw [HXl.out] at this
      exact this
     ·rw [HN.out]
      exact (HT3.out.snoc HX3.out).imp (fun x y h => HR.out _ _ _ _ h (Rz.grown hg9 (fun k e => (hrow k e).2.2)))
     ·rw [HN.out]
      exact HD3.out.grown hg9 (fun k e => ⟨(hrow k e).1, (hrow k e).2.2⟩) (by decide) (by decide) (by decide)
    rw [HXl.out]
    clear HO4 HG4 HO3 HT3 HX3 HD3 HG3 HN HXl
    go_wp2_with fail
    go_roundw
    case rel => exact ⟨i + 1, va, vc, by omega, rfl, HI4⟩
    case measure => simp [lenOf]; omega
   ·rw [show goD (listD one i s).2 = false by simpa using hg] at HG1
    go_wp2_with fail
    refine HG1.out.mono ?_
    rintro e w1 ⟨rfl, h1⟩
    subst h1
    clear HG1
    go_wp2_with fail
    go_ret
    rw [listD_stop one i s hg n hi]
    obtain ⟨xs, hxo, hxl, hxt⟩ := HI.out.ex
    first | exact ⟨_, xs, rfl, hxo, hxt, HI.out.dt⟩ | exact ⟨_, rfl, xs, hxo, hxt, HI.out.dt⟩
  ·obtain rfl : i = n := by omega
   have ji : ¬ (i : Int) < (i : Int) := by omega
   go_wp2_with fail
   go_ret
   obtain ⟨xs, hxo, hxl, hxt⟩ := HI.out.ex
   first | exact ⟨_, xs, rfl, hxo, hxt, HI.out.dt⟩ | exact ⟨_, rfl, xs, hxo, hxt, HI.out.dt⟩
end
theorem infoSc : (Tryz.prog.info? 87).map (fun i => (i.zero, i.size, i.bytes)) = some (some (.agg #[.int .i64 0, .slice none 0 0]), 2, 32) := by kernel_rfl
section
variable {B kb : Nat} {raw : Value} {im en : List Value} {q : Pt} {p g : Nat} {s : D} {w : World}
set_option maxRecDepth 100000 in
set_option maxHeartbeats 4000000 in
theorem listScX {α : Type} {R : World → (Int × SlV) → α → Prop} (hR : ∀ W W' x y, R W x y → Rz 87 W W' → R W' x y) (one : D → α × D) {b1 b2 : Nat} (hone : ∀ W t, Dt B kb raw im en q p g W t W → Fd B w W → Calls Tryz.prog 103 #[.pointer (some ⟨b1, 0, none⟩), .pointer (some ⟨b2, 0, none⟩)] W fun e w' => ∃ x, e = .returned (.agg (scE x).toArray) ∧ R w' x (one t).1 ∧ Dt B kb raw im en q p g W (one t).2 w') (h : Dt B kb raw im en q p g w s w) {n : Nat} (hn : n ≤ 1048576) :
  Calls Tryz.prog 102 #[.pointer (some ⟨kb, 0, none⟩), .int .i64 (n : Int), (.func (.func 103) #[] #[.pointer (some ⟨b1, 0, none⟩), .pointer (some ⟨b2, 0, none⟩)])] w fun e w' => ∃ v xs, e = .returned v ∧ OwnG 87 2 scE w' w.heap.size v xs ∧ T2 (R w') xs (listD one n s).1 ∧ Dt B kb raw im en q p g w (listD one n s).2 w' := by
 have H0 : Hid (Lst 87 2 scE R one B kb raw im en q p g w s (.slice none 0 0) 0 w) := ⟨⟨[], OwnG.nil _ _ _ _ _, rfl, .nil⟩, h⟩
 have HOne : Hid (∀ W t, Dt B kb raw im en q p g W t W → Fd B w W → Calls Tryz.prog 103 #[.pointer (some ⟨b1, 0, none⟩), .pointer (some ⟨b2, 0, none⟩)] W fun e w' => ∃ x, e = .returned (.agg (scE x).toArray) ∧ R w' x (one t).1 ∧ Dt B kb raw im en q p g W (one t).2 w') := hone
 have HR : Hid (∀ W W' x y, R W x y → Rz 87 W W' → R W' x y) := hR
 have HGo : Hid (∀ W s', Dt B kb raw im en q p g w s' W → Calls Tryz.prog 121 #[.pointer (some ⟨kb, 0, none⟩)] W fun e w' => e = .returned (.bool (goD s')) ∧ w' = W) := fun W s' hW => dgoesX hW
 have HLt : Hid (kb < w.heap.size) := h.lt
 clear hone hR h
 go_enter Tryz.func102, Tryz.ntmps102
 go_wp2_with fail
 go_loopw [7] (fun v wr => ∃ (i : Nat) (ao : Option Addr) (cap : Nat), i ≤ n ∧ v = .slice ao i cap ∧ Hid (Lst 87 2 scE R one B kb raw im en q p g w s (.slice ao i cap) i wr)) (fun v _ => n - lenOf v)
 case atStart => exact ⟨0, none, 0, Nat.zero_le _, rfl, H0⟩
 case round =>
  clear H0
  obtain ⟨i, ao, cap, hi, rfl, HI⟩ := hrel
  by_cases hin : i < n
  ·have ji : (i : Int) < (n : Int) := by omega
   have HG1 := Lib.hid (HGo.out _ _ HI.out.dt)
   by_cases hg : goD (listD one i s).2 = true
   ·rw [hg] at HG1
    have HO1 := Lib.hid (HOne.out _ _ HI.out.dt.here HI.out.dt.fr)
    clear HOne HGo
    go_wp2_with fail
    refine HG1.out.mono ?_
    rintro e w1 ⟨rfl, h1⟩
    subst h1
    clear HG1
    go_wp2_with fail
    refine HO1.out.mono ?_
    rintro e w2 ⟨x, rfl, hx, h2⟩
    obtain ⟨xs, hxo, hxl, hxt⟩ := HI.out.ex
    have hf2 := h2.fr
    have HO2 : Hid (OwnG 87 2 scE w2 w.heap.size (.slice ao i cap) xs) := hxo.fd hf2 (by decide) (by decide)
    have HT2 : Hid (T2 (R w2) xs (listD one i s).1) := hxt.imp (fun x y h => HR.out _ _ _ _ h (hf2.rz _))
    have HX2 : Hid (R w2 x (one (listD one i s).2).1) := hx
    have HD2 : Hid (Dt B kb raw im en q p g w (one (listD one i s).2).2 w2) := h2.since HI.out.dt.fr
    have HN : Hid (listD one (i + 1) s = ((listD one i s).1 ++ [(one (listD one i s).2).1], (one (listD one i s).2).2)) := listD_next one i s hg
    have HXl := Lib.hid hxl
    clear hx h2 hf2 hxo hxl hxt HO1 HI
    obtain ⟨W, hW⟩ : ∃ W, W = w2.alloc (.cells (scE x).toArray 87) := ⟨_, rfl⟩
    have hlow : Below w2.heap.size w2 W := by rw [hW]; exact (Below.refl _ _).alloc (Nat.le_refl _) _
    have HG3 : Hid (W.heap[w2.heap.size]? = some (.cells (scE x).toArray 87 (0, 0))) := by rw [hW]; exact heap_alloc_new w2 _
    have HO3 : Hid (OwnG 87 2 scE W w.heap.size (.slice ao i cap) xs) := HO2.out.below hlow
    have HT3 : Hid (T2 (R W) xs (listD one i s).1) := HT2.out.imp (fun x y h => HR.out _ _ _ _ h (Rz.of_below hlow))
    have HX3 : Hid (R W x (one (listD one i s).2).1) := HR.out _ _ _ _ HX2.out (Rz.of_below hlow)
    have HD3 : Hid (Dt B kb raw im en q p g w (one (listD one i s).2).2 W) := HD2.out.below hlow
    have HS3 : Hid (w.heap.size ≤ W.heap.size) := Nat.le_trans HD2.out.fr.size hlow.size
    subst hW
    simp only [scE, slE1]
    clear hlow HO2 HT2 HX2 HD2
    go_wp2_with (at_builtin; refine wpList_appG (enc := scE) (x := x) (xs := xs) rfl 34 87 (.tmp 16) (.tmp 19) rfl 2 32 _ Tryz.underlying34 infoSc (by decide) rfl (by decide) sc_ok (by rfl) HO3.out (by rfl) HG3.out (by rw [HXl.out]; omega) HS3.out ?_)
    intro va vc w4 HO4 HG4
    have HI4 : Hid (Lst 87 2 scE R one B kb raw im en q p g w s (.slice va (i + 1) vc) (i + 1) w4) := by
     obtain ⟨_, _, _, _, _, hrow⟩ := HO3.out.form
     have hg9 := HG4.out
     refine ⟨⟨xs ++ [x], ?_, by rw [List.length_append, HXl.out]; rfl, ?_⟩, ?_⟩
     ·have := HO4.out
      rw [HXl.out] at this
      exact this
     ·rw [HN.out]
      exact (HT3.out.snoc HX3.out).imp (fun x y h => HR.out _ _ _ _ h (Rz.grown hg9 (fun k e => (hrow k e).2.2)))
     ·rw [HN.out]
      exact HD3.out.grown hg9 (fun k e => ⟨(hrow k e).1, (hrow k e).2.2⟩) (by decide) (by decide) (by decide)
    rw [HXl.out]
    clear HO4 HG4 HO3 HT3 HX3 HD3 HG3 HN HXl
    go_wp2_with fail
    go_roundw
    case rel => exact ⟨i + 1, va, vc, by omega, rfl, HI4⟩
    case measure => simp [lenOf]; omega
   ·rw [show goD (listD one i s).2 = false by simpa using hg] at HG1
    go_wp2_with fail
    refine HG1.out.mono ?_
    rintro e w1 ⟨rfl, h1⟩
    subst h1
    clear HG1
    go_wp2_with fail
    go_ret
    rw [listD_stop one i s hg n hi]
    obtain ⟨xs, hxo, hxl, hxt⟩ := HI.out.ex
    first | exact ⟨_, xs, rfl, hxo, hxt, HI.out.dt⟩ | exact ⟨_, rfl, xs, hxo, hxt, HI.out.dt⟩
  ·obtain rfl : i = n := by omega
   have ji : ¬ (i : Int) < (i : Int) := by omega
   go_wp2_with fail
   go_ret
   obtain ⟨xs, hxo, hxl, hxt⟩ := HI.out.ex
   first | exact ⟨_, xs, rfl, hxo, hxt, HI.out.dt⟩ | exact ⟨_, rfl, xs, hxo, hxt, HI.out.dt⟩
end
end Go.Proofs.YtnifefmfhjfbnaaGreatDoor
/- Bundle: a box of the call's own beside the reader. Own work. -/
namespace Go.Proofs.YtnifefmfhjfbnaaGreatDoor
open Go.RowKit Bn Dc
set_option linter.unusedVariables false
set_option linter.unusedSimpArgs false
section
variable {B kb : Nat} {raw : Value} {im en : List Value} {q : Pt} {p g : Nat} {w0 : World} {s : D} {w w' : World}
/-- the reader, and a box that is new since w0 -/
structure Db (t : TypeId) (n : Nat) (B kb : Nat) (raw : Value) (im en : List Value) (q : Pt) (p g : Nat) (w0 : World) (s : D) (w : World) : Prop where
 dt : Dt B kb raw im en q p g w0 s w
 tg : Tagd w t n
 hn : w0.heap.size ≤ n
 h1 : t ≠ 66
 h2 : t ≠ 142
 h3 : t ≠ 5
theorem Db.set {t : TypeId} {n : Nat} (h : Db t n B kb raw im en q p g w0 s w) (i : Nat) (u : Value) : Db t n B kb raw im en q p g w0 s (w.setCell ⟨n, i, none⟩ u) := by
 have hk := Keeps.setCell w n i u
 have nb : n ≠ kb := fun e => h.h1 (tag_same h.tg ⟨_, e ▸ h.dt.blk⟩)
 have np : p ≠ n := fun e => h.h2 (tag_same h.tg ⟨_, e ▸ h.dt.rd.1⟩)
 have ng : g ≠ n := fun e => h.h3 (tag_same h.tg ⟨_, e ▸ h.dt.rd.2.1⟩)
 refine ⟨⟨(hk.block kb h.dt.lt (fun e => nb e.symm)).trans h.dt.blk, h.dt.him, h.dt.hen, h.dt.hpt, h.dt.hfi, h.dt.hlen, h.dt.rd.keeps hk np ng, h.dt.hB, ?_⟩, ?_, h.hn, h.h1, h.h2, h.h3⟩
 ·have hf := h.dt.fr
  have hn := h.hn
  exact ⟨hk.os.trans hf.os, hk.tape.trans hf.tape, hk.output.trans hf.output, Nat.le_trans hf.size hk.size, fun j hj hq => (hk.block j (Nat.lt_of_lt_of_le hj hf.size) (fun e => by omega)).trans (hf.block j hj hq)⟩
 ·obtain ⟨cur, hc⟩ := h.tg
  exact ⟨cur.setIfInBounds i u, by simp [World.setCell, Array.getElem?_modify, hc]⟩
theorem Dt.box (h : Dt B kb raw im en q p g w0 s w) {t : TypeId} {n : Nat} {cs : Array Value} (hb : w0.heap[n]? = some (.cells cs t (0, 0))) (h1 : t ≠ 66) (h2 : t ≠ 142) : w.heap[n]? = some (.cells cs t (0, 0)) := (h.fr.block' ⟨_, hb⟩ h1 h2).trans hb
theorem box_cell {n : Nat} {cs : List Value} {t : TypeId} (h : w.heap[n]? = some (.cells cs.toArray t (0, 0))) (i : Nat) : w.cell? ⟨n, i, none⟩ = cs[i]? := by rw [cell_of_row _ _ i _ _ _ h, List.getElem?_toArray]
theorem box_free {n : Nat} {cs : Array Value} {t : TypeId} (h : w.heap[n]? = some (.cells cs t (0, 0))) (i : Nat) : w.frozen? ⟨n, i, none⟩ = false := by simp [World.frozen?, h]
theorem box_set {n : Nat} {cs : List Value} {t : TypeId} (h : w.heap[n]? = some (.cells cs.toArray t (0, 0))) (i : Nat) (u : Value) : (w.setCell ⟨n, i, none⟩ u).heap[n]? = some (.cells (cs.set i u).toArray t (0, 0)) := by
 simp [World.setCell, Array.getElem?_modify, h]
/-- the reader beside a new box -/
theorem Dt.boxed (h : Dt B kb raw im en q p g w0 s w) (o : Obj) : Dt B kb raw im en q p g (w.alloc o) s (w.alloc o) ∧ Fd B w0 (w.alloc o) ∧ (w.alloc o).heap[w.heap.size]? = some o ∧ Below w.heap.size w (w.alloc o) := by
 have hb : Below w.heap.size w (w.alloc o) := (Below.refl _ _).alloc (Nat.le_refl _) _
 exact ⟨(h.below hb).here, h.fr.trans (Fd.of_below hb), heap_alloc_new w o, hb⟩
end
end Go.Proofs.YtnifefmfhjfbnaaGreatDoor
