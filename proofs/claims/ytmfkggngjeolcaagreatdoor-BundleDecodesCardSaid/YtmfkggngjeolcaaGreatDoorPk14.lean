import Derived.Test.YtmfkggngjeolcaaGreatDoorPk11
import Derived.Test.YtmfkggngjeolcaaGreatDoorPk13
import Derived.Laws.ResultCell
set_option linter.unusedSimpArgs false
set_option linter.unusedVariables false
set_option maxHeartbeats 4000000
set_option maxRecDepth 100000
namespace Go.Proofs.YtmfkggngjeolcaaGreatDoor
open Go.RowKit Bn Dc
structure SlV where
 a : Option Addr
 n : Nat
 c : Nat
def slE1 (x : SlV) : Value := .slice x.a x.n x.c
def slE (x : SlV) : List Value := [slE1 x]
def scE (x : Int × SlV) : List Value := [.int .i64 x.1, slE1 x.2]
def tbE (f : Nat → Nat) : List Value := (tabV f).toList
theorem rg_ok : EncOk 2 rgE := ⟨fun _ => rfl, fun x u hu => by simp [rgE] at hu; rcases hu with rfl | rfl <;> rfl⟩
theorem tn_ok : EncOk 6 tnE := ⟨fun _ => rfl, fun x u hu => by simp [tnE] at hu; rcases hu with rfl | rfl | rfl | rfl | rfl | rfl <;> rfl⟩
theorem po_ok : EncOk 1 poE := ⟨fun _ => rfl, fun x u hu => by simp [poE] at hu; rcases hu with rfl <;> rfl⟩
theorem gd_ok : EncOk 4 gdE := ⟨fun _ => rfl, fun x u hu => by simp [gdE] at hu; rcases hu with rfl | rfl | rfl | rfl <;> rfl⟩
theorem lk_ok : EncOk 5 lkE := ⟨fun _ => rfl, fun x u hu => by simp [lkE] at hu; rcases hu with rfl | rfl | rfl | rfl | rfl <;> rfl⟩
theorem st_ok : EncOk 2 stE := ⟨fun _ => rfl, fun x u hu => by simp [stE] at hu; rcases hu with rfl | rfl <;> rfl⟩
theorem sl_ok : EncOk 1 slE := ⟨fun _ => rfl, fun x u hu => by simp [slE] at hu; rcases hu with rfl <;> rfl⟩
theorem sc_ok : EncOk 2 scE := ⟨fun _ => rfl, fun x u hu => by simp [scE] at hu; rcases hu with rfl | rfl <;> rfl⟩
theorem infoRg : (Tryz.prog.info? 64).map (fun i => (i.zero, i.size, i.bytes)) = some (some (.agg #[.int .u64 0, .int .u64 0]), 2, 16) := by kernel_rfl
section
variable {B kb : Nat} {raw : Value} {im en : List Value} {q : Pt} {p g : Nat} {s : D} {w : World}
theorem listRgX {α : Type} {R : World → Rg → α → Prop} (hR : ∀ W W' x y, R W x y → Rz 64 W W' → R W' x y) (one : D → α × D) (hone : ∀ W t, Dt B kb raw im en q p g W t W → Fd B w W → Calls Tryz.prog 144 #[.pointer (some ⟨kb, 0, none⟩)] W fun e w' => ∃ x, e = .returned (.agg (rgE x).toArray) ∧ R w' x (one t).1 ∧ Dt B kb raw im en q p g W (one t).2 w') (h : Dt B kb raw im en q p g w s w) {n : Nat} (hn : n ≤ 1048576) :
  Calls Tryz.prog 143 #[.pointer (some ⟨kb, 0, none⟩), .int .i64 (n : Int), (.func (.func 144) #[.pointer (some ⟨kb, 0, none⟩)] #[])] w fun e w' => ∃ v xs, e = .returned v ∧ OwnG 64 2 rgE w' w.heap.size v xs ∧ T2 (R w') xs (listD one n s).1 ∧ Dt B kb raw im en q p g w (listD one n s).2 w' := by
 have H0 : Hid (Lst 64 2 rgE R one B kb raw im en q p g w s (.slice none 0 0) 0 w) := ⟨⟨[], OwnG.nil _ _ _ _ _, rfl, .nil⟩, h⟩
 have HOne := Lib.hid hone;have HR := Lib.hid hR;have HGo : Hid (∀ W s', Dt B kb raw im en q p g w s' W → Calls Tryz.prog 173 #[.pointer (some ⟨kb, 0, none⟩)] W fun e w' => e = .returned (.bool (goD s')) ∧ w' = W) := fun W s' hW => dgoesX hW;have HLt : Hid (kb < w.heap.size) := h.lt;clear hone hR h;go_enter Tryz.func143, Tryz.ntmps143
 go_wp2_with fail
 go_loopw [7] (fun v wr => ∃ (i : Nat) (ao : Option Addr) (cap : Nat), i ≤ n ∧ v = .slice ao i cap ∧ Hid (Lst 64 2 rgE R one B kb raw im en q p g w s (.slice ao i cap) i wr)) (fun v _ => n - lenOf v)
 case atStart => exact ⟨0, none, 0, Nat.zero_le _, rfl, H0⟩
 case round =>
  clear H0;obtain ⟨i, ao, cap, hi, rfl, HI⟩ := hrel
  by_cases hin : i < n
  ·have ji : (i : Int) < (n : Int) := by omega
   have HG1 := Lib.hid (HGo.out _ _ HI.out.dt)
   by_cases hg : goD (listD one i s).2 = true
   ·rw [hg] at HG1;have HO1 := Lib.hid (HOne.out _ _ HI.out.dt.here HI.out.dt.fr);clear HOne HGo;go_wp2_with fail
    refine HG1.out.mono ?_;rintro e w1 ⟨rfl, h1⟩;subst h1;clear HG1;go_wp2_with fail
    refine HO1.out.mono ?_;rintro e w2 ⟨x, rfl, hx, h2⟩;obtain ⟨xs, hxl, hst⟩ := HI.out.step HR.out hg hx h2 (by decide) (by decide) (by decide);have HXl := Lib.hid hxl;clear hx h2 hxl HO1 HI;obtain ⟨W, hW⟩ : ∃ W, W = w2.alloc (.cells (rgE x).toArray 64) := ⟨_, rfl⟩
    obtain ⟨h3, h4, h5, h6⟩ := hst W hW;have HO3 := Lib.hid h3;have HG3 := Lib.hid h4;have HS3 := Lib.hid h5;have HNx := Lib.hid h6;clear h3 h4 h5 h6 hst;subst hW;simp only [rgE];go_wp2_with (at_builtin; refine wpList_appG (enc := rgE) (x := x) (xs := xs) rfl 23 64 (.tmp 16) (.tmp 19) rfl 2 16 _ Tryz.underlying23 infoRg (by decide) rfl (by decide) rg_ok (by rfl) HO3.out (by rfl) HG3.out (by rw [HXl.out]; omega) HS3.out ?_)
    intro va vc w4 HO4 HG4;have HI4 := Lib.hid (HNx.out va vc w4 HO4.out HG4.out);rw [HXl.out];clear HO4 HG4 HO3 HG3 HS3 HNx HXl;go_wp2_with fail
    go_roundw
    case rel => exact ⟨i + 1, va, vc, by omega, rfl, HI4⟩
    case measure => simp [lenOf]; omega
   ·rw [show goD (listD one i s).2 = false by simpa using hg] at HG1;go_wp2_with fail
    refine HG1.out.mono ?_;rintro e w1 ⟨rfl, h1⟩;subst h1;clear HG1;go_wp2_with fail
    go_ret
    rw [listD_stop one i s hg n hi];obtain ⟨xs, hxo, hxl, hxt⟩ := HI.out.ex
    first | exact ⟨_, xs, rfl, hxo, hxt, HI.out.dt⟩ | exact ⟨_, rfl, xs, hxo, hxt, HI.out.dt⟩
  ·obtain rfl : i = n := by omega
   have ji : ¬ (i : Int) < (i : Int) := by omega
   go_wp2_with fail
   go_ret
   obtain ⟨xs, hxo, hxl, hxt⟩ := HI.out.ex
   first | exact ⟨_, xs, rfl, hxo, hxt, HI.out.dt⟩ | exact ⟨_, rfl, xs, hxo, hxt, HI.out.dt⟩
end
theorem infoTn : (Tryz.prog.info? 66).map (fun i => (i.zero, i.size, i.bytes)) = some (some (.agg #[.int .i64 0, .int .i64 0, .bool false, .int .i64 0, .int .i64 0, .int .i64 0]), 6, 48) := by kernel_rfl
section
variable {B kb : Nat} {raw : Value} {im en : List Value} {q : Pt} {p g : Nat} {s : D} {w : World}
theorem listTnX {α : Type} {R : World → Tn → α → Prop} (hR : ∀ W W' x y, R W x y → Rz 66 W W' → R W' x y) (one : D → α × D) (hone : ∀ W t, Dt B kb raw im en q p g W t W → Fd B w W → Calls Tryz.prog 147 #[.pointer (some ⟨kb, 0, none⟩)] W fun e w' => ∃ x, e = .returned (.agg (tnE x).toArray) ∧ R w' x (one t).1 ∧ Dt B kb raw im en q p g W (one t).2 w') (h : Dt B kb raw im en q p g w s w) {n : Nat} (hn : n ≤ 1048576) :
  Calls Tryz.prog 145 #[.pointer (some ⟨kb, 0, none⟩), .int .i64 (n : Int), (.func (.func 147) #[.pointer (some ⟨kb, 0, none⟩)] #[])] w fun e w' => ∃ v xs, e = .returned v ∧ OwnG 66 6 tnE w' w.heap.size v xs ∧ T2 (R w') xs (listD one n s).1 ∧ Dt B kb raw im en q p g w (listD one n s).2 w' := by
 have H0 : Hid (Lst 66 6 tnE R one B kb raw im en q p g w s (.slice none 0 0) 0 w) := ⟨⟨[], OwnG.nil _ _ _ _ _, rfl, .nil⟩, h⟩
 have HOne := Lib.hid hone;have HR := Lib.hid hR;have HGo : Hid (∀ W s', Dt B kb raw im en q p g w s' W → Calls Tryz.prog 173 #[.pointer (some ⟨kb, 0, none⟩)] W fun e w' => e = .returned (.bool (goD s')) ∧ w' = W) := fun W s' hW => dgoesX hW;have HLt : Hid (kb < w.heap.size) := h.lt;clear hone hR h;go_enter Tryz.func145, Tryz.ntmps145
 go_wp2_with fail
 go_loopw [7] (fun v wr => ∃ (i : Nat) (ao : Option Addr) (cap : Nat), i ≤ n ∧ v = .slice ao i cap ∧ Hid (Lst 66 6 tnE R one B kb raw im en q p g w s (.slice ao i cap) i wr)) (fun v _ => n - lenOf v)
 case atStart => exact ⟨0, none, 0, Nat.zero_le _, rfl, H0⟩
 case round =>
  clear H0;obtain ⟨i, ao, cap, hi, rfl, HI⟩ := hrel
  by_cases hin : i < n
  ·have ji : (i : Int) < (n : Int) := by omega
   have HG1 := Lib.hid (HGo.out _ _ HI.out.dt)
   by_cases hg : goD (listD one i s).2 = true
   ·rw [hg] at HG1;have HO1 := Lib.hid (HOne.out _ _ HI.out.dt.here HI.out.dt.fr);clear HOne HGo;go_wp2_with fail
    refine HG1.out.mono ?_;rintro e w1 ⟨rfl, h1⟩;subst h1;clear HG1;go_wp2_with fail
    refine HO1.out.mono ?_;rintro e w2 ⟨x, rfl, hx, h2⟩;obtain ⟨xs, hxl, hst⟩ := HI.out.step HR.out hg hx h2 (by decide) (by decide) (by decide);have HXl := Lib.hid hxl;clear hx h2 hxl HO1 HI;obtain ⟨W, hW⟩ : ∃ W, W = w2.alloc (.cells (tnE x).toArray 66) := ⟨_, rfl⟩
    obtain ⟨h3, h4, h5, h6⟩ := hst W hW;have HO3 := Lib.hid h3;have HG3 := Lib.hid h4;have HS3 := Lib.hid h5;have HNx := Lib.hid h6;clear h3 h4 h5 h6 hst;subst hW;simp only [tnE];go_wp2_with (at_builtin; refine wpList_appG (enc := tnE) (x := x) (xs := xs) rfl 26 66 (.tmp 16) (.tmp 19) rfl 6 48 _ Tryz.underlying26 infoTn (by decide) rfl (by decide) tn_ok (by rfl) HO3.out (by rfl) HG3.out (by rw [HXl.out]; omega) HS3.out ?_)
    intro va vc w4 HO4 HG4;have HI4 := Lib.hid (HNx.out va vc w4 HO4.out HG4.out);rw [HXl.out];clear HO4 HG4 HO3 HG3 HS3 HNx HXl;go_wp2_with fail
    go_roundw
    case rel => exact ⟨i + 1, va, vc, by omega, rfl, HI4⟩
    case measure => simp [lenOf]; omega
   ·rw [show goD (listD one i s).2 = false by simpa using hg] at HG1;go_wp2_with fail
    refine HG1.out.mono ?_;rintro e w1 ⟨rfl, h1⟩;subst h1;clear HG1;go_wp2_with fail
    go_ret
    rw [listD_stop one i s hg n hi];obtain ⟨xs, hxo, hxl, hxt⟩ := HI.out.ex
    first | exact ⟨_, xs, rfl, hxo, hxt, HI.out.dt⟩ | exact ⟨_, rfl, xs, hxo, hxt, HI.out.dt⟩
  ·obtain rfl : i = n := by omega
   have ji : ¬ (i : Int) < (i : Int) := by omega
   go_wp2_with fail
   go_ret
   obtain ⟨xs, hxo, hxl, hxt⟩ := HI.out.ex
   first | exact ⟨_, xs, rfl, hxo, hxt, HI.out.dt⟩ | exact ⟨_, rfl, xs, hxo, hxt, HI.out.dt⟩
end
theorem infoPo : (Tryz.prog.info? 68).map (fun i => (i.zero, i.size, i.bytes)) = some (some (.agg #[.int .i64 0]), 1, 8) := by kernel_rfl
section
variable {B kb : Nat} {raw : Value} {im en : List Value} {q : Pt} {p g : Nat} {s : D} {w : World}
theorem listPoX {α : Type} {R : World → Int → α → Prop} (hR : ∀ W W' x y, R W x y → Rz 68 W W' → R W' x y) (one : D → α × D) (hone : ∀ W t, Dt B kb raw im en q p g W t W → Fd B w W → Calls Tryz.prog 149 #[.pointer (some ⟨kb, 0, none⟩)] W fun e w' => ∃ x, e = .returned (.agg (poE x).toArray) ∧ R w' x (one t).1 ∧ Dt B kb raw im en q p g W (one t).2 w') (h : Dt B kb raw im en q p g w s w) {n : Nat} (hn : n ≤ 1048576) :
  Calls Tryz.prog 148 #[.pointer (some ⟨kb, 0, none⟩), .int .i64 (n : Int), (.func (.func 149) #[.pointer (some ⟨kb, 0, none⟩)] #[])] w fun e w' => ∃ v xs, e = .returned v ∧ OwnG 68 1 poE w' w.heap.size v xs ∧ T2 (R w') xs (listD one n s).1 ∧ Dt B kb raw im en q p g w (listD one n s).2 w' := by
 have H0 : Hid (Lst 68 1 poE R one B kb raw im en q p g w s (.slice none 0 0) 0 w) := ⟨⟨[], OwnG.nil _ _ _ _ _, rfl, .nil⟩, h⟩
 have HOne := Lib.hid hone;have HR := Lib.hid hR;have HGo : Hid (∀ W s', Dt B kb raw im en q p g w s' W → Calls Tryz.prog 173 #[.pointer (some ⟨kb, 0, none⟩)] W fun e w' => e = .returned (.bool (goD s')) ∧ w' = W) := fun W s' hW => dgoesX hW;have HLt : Hid (kb < w.heap.size) := h.lt;clear hone hR h;go_enter Tryz.func148, Tryz.ntmps148
 go_wp2_with fail
 go_loopw [7] (fun v wr => ∃ (i : Nat) (ao : Option Addr) (cap : Nat), i ≤ n ∧ v = .slice ao i cap ∧ Hid (Lst 68 1 poE R one B kb raw im en q p g w s (.slice ao i cap) i wr)) (fun v _ => n - lenOf v)
 case atStart => exact ⟨0, none, 0, Nat.zero_le _, rfl, H0⟩
 case round =>
  clear H0;obtain ⟨i, ao, cap, hi, rfl, HI⟩ := hrel
  by_cases hin : i < n
  ·have ji : (i : Int) < (n : Int) := by omega
   have HG1 := Lib.hid (HGo.out _ _ HI.out.dt)
   by_cases hg : goD (listD one i s).2 = true
   ·rw [hg] at HG1;have HO1 := Lib.hid (HOne.out _ _ HI.out.dt.here HI.out.dt.fr);clear HOne HGo;go_wp2_with fail
    refine HG1.out.mono ?_;rintro e w1 ⟨rfl, h1⟩;subst h1;clear HG1;go_wp2_with fail
    refine HO1.out.mono ?_;rintro e w2 ⟨x, rfl, hx, h2⟩;obtain ⟨xs, hxl, hst⟩ := HI.out.step HR.out hg hx h2 (by decide) (by decide) (by decide);have HXl := Lib.hid hxl;clear hx h2 hxl HO1 HI;obtain ⟨W, hW⟩ : ∃ W, W = w2.alloc (.cells (poE x).toArray 68) := ⟨_, rfl⟩
    obtain ⟨h3, h4, h5, h6⟩ := hst W hW;have HO3 := Lib.hid h3;have HG3 := Lib.hid h4;have HS3 := Lib.hid h5;have HNx := Lib.hid h6;clear h3 h4 h5 h6 hst;subst hW;simp only [poE];go_wp2_with (at_builtin; refine wpList_appG (enc := poE) (x := x) (xs := xs) rfl 27 68 (.tmp 16) (.tmp 19) rfl 1 8 _ Tryz.underlying27 infoPo (by decide) rfl (by decide) po_ok (by rfl) HO3.out (by rfl) HG3.out (by rw [HXl.out]; omega) HS3.out ?_)
    intro va vc w4 HO4 HG4;have HI4 := Lib.hid (HNx.out va vc w4 HO4.out HG4.out);rw [HXl.out];clear HO4 HG4 HO3 HG3 HS3 HNx HXl;go_wp2_with fail
    go_roundw
    case rel => exact ⟨i + 1, va, vc, by omega, rfl, HI4⟩
    case measure => simp [lenOf]; omega
   ·rw [show goD (listD one i s).2 = false by simpa using hg] at HG1;go_wp2_with fail
    refine HG1.out.mono ?_;rintro e w1 ⟨rfl, h1⟩;subst h1;clear HG1;go_wp2_with fail
    go_ret
    rw [listD_stop one i s hg n hi];obtain ⟨xs, hxo, hxl, hxt⟩ := HI.out.ex
    first | exact ⟨_, xs, rfl, hxo, hxt, HI.out.dt⟩ | exact ⟨_, rfl, xs, hxo, hxt, HI.out.dt⟩
  ·obtain rfl : i = n := by omega
   have ji : ¬ (i : Int) < (i : Int) := by omega
   go_wp2_with fail
   go_ret
   obtain ⟨xs, hxo, hxl, hxt⟩ := HI.out.ex
   first | exact ⟨_, xs, rfl, hxo, hxt, HI.out.dt⟩ | exact ⟨_, rfl, xs, hxo, hxt, HI.out.dt⟩
end
theorem infoGd : (Tryz.prog.info? 70).map (fun i => (i.zero, i.size, i.bytes)) = some (some (.agg #[.int .u64 0, .int .u64 0, .int .u8 0, .string ⟨#[]⟩]), 4, 40) := by kernel_rfl
section
variable {B kb : Nat} {raw : Value} {im en : List Value} {q : Pt} {p g : Nat} {s : D} {w : World}
theorem listGdX {α : Type} {R : World → Gd → α → Prop} (hR : ∀ W W' x y, R W x y → Rz 70 W W' → R W' x y) (one : D → α × D) (hone : ∀ W t, Dt B kb raw im en q p g W t W → Fd B w W → Calls Tryz.prog 151 #[.pointer (some ⟨kb, 0, none⟩)] W fun e w' => ∃ x, e = .returned (.agg (gdE x).toArray) ∧ R w' x (one t).1 ∧ Dt B kb raw im en q p g W (one t).2 w') (h : Dt B kb raw im en q p g w s w) {n : Nat} (hn : n ≤ 1048576) :
  Calls Tryz.prog 150 #[.pointer (some ⟨kb, 0, none⟩), .int .i64 (n : Int), (.func (.func 151) #[.pointer (some ⟨kb, 0, none⟩)] #[])] w fun e w' => ∃ v xs, e = .returned v ∧ OwnG 70 4 gdE w' w.heap.size v xs ∧ T2 (R w') xs (listD one n s).1 ∧ Dt B kb raw im en q p g w (listD one n s).2 w' := by
 have H0 : Hid (Lst 70 4 gdE R one B kb raw im en q p g w s (.slice none 0 0) 0 w) := ⟨⟨[], OwnG.nil _ _ _ _ _, rfl, .nil⟩, h⟩
 have HOne := Lib.hid hone;have HR := Lib.hid hR;have HGo : Hid (∀ W s', Dt B kb raw im en q p g w s' W → Calls Tryz.prog 173 #[.pointer (some ⟨kb, 0, none⟩)] W fun e w' => e = .returned (.bool (goD s')) ∧ w' = W) := fun W s' hW => dgoesX hW;have HLt : Hid (kb < w.heap.size) := h.lt;clear hone hR h;go_enter Tryz.func150, Tryz.ntmps150
 go_wp2_with fail
 go_loopw [7] (fun v wr => ∃ (i : Nat) (ao : Option Addr) (cap : Nat), i ≤ n ∧ v = .slice ao i cap ∧ Hid (Lst 70 4 gdE R one B kb raw im en q p g w s (.slice ao i cap) i wr)) (fun v _ => n - lenOf v)
 case atStart => exact ⟨0, none, 0, Nat.zero_le _, rfl, H0⟩
 case round =>
  clear H0;obtain ⟨i, ao, cap, hi, rfl, HI⟩ := hrel
  by_cases hin : i < n
  ·have ji : (i : Int) < (n : Int) := by omega
   have HG1 := Lib.hid (HGo.out _ _ HI.out.dt)
   by_cases hg : goD (listD one i s).2 = true
   ·rw [hg] at HG1;have HO1 := Lib.hid (HOne.out _ _ HI.out.dt.here HI.out.dt.fr);clear HOne HGo;go_wp2_with fail
    refine HG1.out.mono ?_;rintro e w1 ⟨rfl, h1⟩;subst h1;clear HG1;go_wp2_with fail
    refine HO1.out.mono ?_;rintro e w2 ⟨x, rfl, hx, h2⟩;obtain ⟨xs, hxl, hst⟩ := HI.out.step HR.out hg hx h2 (by decide) (by decide) (by decide);have HXl := Lib.hid hxl;clear hx h2 hxl HO1 HI;obtain ⟨W, hW⟩ : ∃ W, W = w2.alloc (.cells (gdE x).toArray 70) := ⟨_, rfl⟩
    obtain ⟨h3, h4, h5, h6⟩ := hst W hW;have HO3 := Lib.hid h3;have HG3 := Lib.hid h4;have HS3 := Lib.hid h5;have HNx := Lib.hid h6;clear h3 h4 h5 h6 hst;subst hW;simp only [gdE];go_wp2_with (at_builtin; refine wpList_appG (enc := gdE) (x := x) (xs := xs) rfl 28 70 (.tmp 16) (.tmp 19) rfl 4 40 _ Tryz.underlying28 infoGd (by decide) rfl (by decide) gd_ok (by rfl) HO3.out (by rfl) HG3.out (by rw [HXl.out]; omega) HS3.out ?_)
    intro va vc w4 HO4 HG4;have HI4 := Lib.hid (HNx.out va vc w4 HO4.out HG4.out);rw [HXl.out];clear HO4 HG4 HO3 HG3 HS3 HNx HXl;go_wp2_with fail
    go_roundw
    case rel => exact ⟨i + 1, va, vc, by omega, rfl, HI4⟩
    case measure => simp [lenOf]; omega
   ·rw [show goD (listD one i s).2 = false by simpa using hg] at HG1;go_wp2_with fail
    refine HG1.out.mono ?_;rintro e w1 ⟨rfl, h1⟩;subst h1;clear HG1;go_wp2_with fail
    go_ret
    rw [listD_stop one i s hg n hi];obtain ⟨xs, hxo, hxl, hxt⟩ := HI.out.ex
    first | exact ⟨_, xs, rfl, hxo, hxt, HI.out.dt⟩ | exact ⟨_, rfl, xs, hxo, hxt, HI.out.dt⟩
  ·obtain rfl : i = n := by omega
   have ji : ¬ (i : Int) < (i : Int) := by omega
   go_wp2_with fail
   go_ret
   obtain ⟨xs, hxo, hxl, hxt⟩ := HI.out.ex
   first | exact ⟨_, xs, rfl, hxo, hxt, HI.out.dt⟩ | exact ⟨_, rfl, xs, hxo, hxt, HI.out.dt⟩
end
theorem infoCh : (Tryz.prog.info? 72).map (fun i => (i.zero, i.size, i.bytes)) = some (some (.agg #[.int .i64 0, .int .i64 0, .int .i64 0, .int .i64 0, .bool false]), 5, 40) := by kernel_rfl
section
variable {B kb : Nat} {raw : Value} {im en : List Value} {q : Pt} {p g : Nat} {s : D} {w : World}
theorem listChX {α : Type} {R : World → Lk → α → Prop} (hR : ∀ W W' x y, R W x y → Rz 72 W W' → R W' x y) (one : D → α × D) (hone : ∀ W t, Dt B kb raw im en q p g W t W → Fd B w W → Calls Tryz.prog 153 #[.pointer (some ⟨kb, 0, none⟩)] W fun e w' => ∃ x, e = .returned (.agg (lkE x).toArray) ∧ R w' x (one t).1 ∧ Dt B kb raw im en q p g W (one t).2 w') (h : Dt B kb raw im en q p g w s w) {n : Nat} (hn : n ≤ 1048576) :
  Calls Tryz.prog 152 #[.pointer (some ⟨kb, 0, none⟩), .int .i64 (n : Int), (.func (.func 153) #[.pointer (some ⟨kb, 0, none⟩)] #[])] w fun e w' => ∃ v xs, e = .returned v ∧ OwnG 72 5 lkE w' w.heap.size v xs ∧ T2 (R w') xs (listD one n s).1 ∧ Dt B kb raw im en q p g w (listD one n s).2 w' := by
 have H0 : Hid (Lst 72 5 lkE R one B kb raw im en q p g w s (.slice none 0 0) 0 w) := ⟨⟨[], OwnG.nil _ _ _ _ _, rfl, .nil⟩, h⟩
 have HOne := Lib.hid hone;have HR := Lib.hid hR;have HGo : Hid (∀ W s', Dt B kb raw im en q p g w s' W → Calls Tryz.prog 173 #[.pointer (some ⟨kb, 0, none⟩)] W fun e w' => e = .returned (.bool (goD s')) ∧ w' = W) := fun W s' hW => dgoesX hW;have HLt : Hid (kb < w.heap.size) := h.lt;clear hone hR h;go_enter Tryz.func152, Tryz.ntmps152
 go_wp2_with fail
 go_loopw [7] (fun v wr => ∃ (i : Nat) (ao : Option Addr) (cap : Nat), i ≤ n ∧ v = .slice ao i cap ∧ Hid (Lst 72 5 lkE R one B kb raw im en q p g w s (.slice ao i cap) i wr)) (fun v _ => n - lenOf v)
 case atStart => exact ⟨0, none, 0, Nat.zero_le _, rfl, H0⟩
 case round =>
  clear H0;obtain ⟨i, ao, cap, hi, rfl, HI⟩ := hrel
  by_cases hin : i < n
  ·have ji : (i : Int) < (n : Int) := by omega
   have HG1 := Lib.hid (HGo.out _ _ HI.out.dt)
   by_cases hg : goD (listD one i s).2 = true
   ·rw [hg] at HG1;have HO1 := Lib.hid (HOne.out _ _ HI.out.dt.here HI.out.dt.fr);clear HOne HGo;go_wp2_with fail
    refine HG1.out.mono ?_;rintro e w1 ⟨rfl, h1⟩;subst h1;clear HG1;go_wp2_with fail
    refine HO1.out.mono ?_;rintro e w2 ⟨x, rfl, hx, h2⟩;obtain ⟨xs, hxl, hst⟩ := HI.out.step HR.out hg hx h2 (by decide) (by decide) (by decide);have HXl := Lib.hid hxl;clear hx h2 hxl HO1 HI;obtain ⟨W, hW⟩ : ∃ W, W = w2.alloc (.cells (lkE x).toArray 72) := ⟨_, rfl⟩
    obtain ⟨h3, h4, h5, h6⟩ := hst W hW;have HO3 := Lib.hid h3;have HG3 := Lib.hid h4;have HS3 := Lib.hid h5;have HNx := Lib.hid h6;clear h3 h4 h5 h6 hst;subst hW;simp only [lkE];go_wp2_with (at_builtin; refine wpList_appG (enc := lkE) (x := x) (xs := xs) rfl 29 72 (.tmp 16) (.tmp 19) rfl 5 40 _ Tryz.underlying29 infoCh (by decide) rfl (by decide) lk_ok (by rfl) HO3.out (by rfl) HG3.out (by rw [HXl.out]; omega) HS3.out ?_)
    intro va vc w4 HO4 HG4;have HI4 := Lib.hid (HNx.out va vc w4 HO4.out HG4.out);rw [HXl.out];clear HO4 HG4 HO3 HG3 HS3 HNx HXl;go_wp2_with fail
    go_roundw
    case rel => exact ⟨i + 1, va, vc, by omega, rfl, HI4⟩
    case measure => simp [lenOf]; omega
   ·rw [show goD (listD one i s).2 = false by simpa using hg] at HG1;go_wp2_with fail
    refine HG1.out.mono ?_;rintro e w1 ⟨rfl, h1⟩;subst h1;clear HG1;go_wp2_with fail
    go_ret
    rw [listD_stop one i s hg n hi];obtain ⟨xs, hxo, hxl, hxt⟩ := HI.out.ex
    first | exact ⟨_, xs, rfl, hxo, hxt, HI.out.dt⟩ | exact ⟨_, rfl, xs, hxo, hxt, HI.out.dt⟩
  ·obtain rfl : i = n := by omega
   have ji : ¬ (i : Int) < (i : Int) := by omega
   go_wp2_with fail
   go_ret
   obtain ⟨xs, hxo, hxl, hxt⟩ := HI.out.ex
   first | exact ⟨_, xs, rfl, hxo, hxt, HI.out.dt⟩ | exact ⟨_, rfl, xs, hxo, hxt, HI.out.dt⟩
end
section
variable {B kb : Nat} {raw : Value} {im en : List Value} {q : Pt} {p g : Nat} {s : D} {w : World}
theorem listIqX {α : Type} {R : World → Lk → α → Prop} (hR : ∀ W W' x y, R W x y → Rz 72 W W' → R W' x y) (one : D → α × D) (hone : ∀ W t, Dt B kb raw im en q p g W t W → Fd B w W → Calls Tryz.prog 154 #[.pointer (some ⟨kb, 0, none⟩)] W fun e w' => ∃ x, e = .returned (.agg (lkE x).toArray) ∧ R w' x (one t).1 ∧ Dt B kb raw im en q p g W (one t).2 w') (h : Dt B kb raw im en q p g w s w) {n : Nat} (hn : n ≤ 1048576) :
  Calls Tryz.prog 152 #[.pointer (some ⟨kb, 0, none⟩), .int .i64 (n : Int), (.func (.func 154) #[.pointer (some ⟨kb, 0, none⟩)] #[])] w fun e w' => ∃ v xs, e = .returned v ∧ OwnG 72 5 lkE w' w.heap.size v xs ∧ T2 (R w') xs (listD one n s).1 ∧ Dt B kb raw im en q p g w (listD one n s).2 w' := by
 have H0 : Hid (Lst 72 5 lkE R one B kb raw im en q p g w s (.slice none 0 0) 0 w) := ⟨⟨[], OwnG.nil _ _ _ _ _, rfl, .nil⟩, h⟩
 have HOne := Lib.hid hone;have HR := Lib.hid hR;have HGo : Hid (∀ W s', Dt B kb raw im en q p g w s' W → Calls Tryz.prog 173 #[.pointer (some ⟨kb, 0, none⟩)] W fun e w' => e = .returned (.bool (goD s')) ∧ w' = W) := fun W s' hW => dgoesX hW;have HLt : Hid (kb < w.heap.size) := h.lt;clear hone hR h;go_enter Tryz.func152, Tryz.ntmps152
 go_wp2_with fail
 go_loopw [7] (fun v wr => ∃ (i : Nat) (ao : Option Addr) (cap : Nat), i ≤ n ∧ v = .slice ao i cap ∧ Hid (Lst 72 5 lkE R one B kb raw im en q p g w s (.slice ao i cap) i wr)) (fun v _ => n - lenOf v)
 case atStart => exact ⟨0, none, 0, Nat.zero_le _, rfl, H0⟩
 case round =>
  clear H0;obtain ⟨i, ao, cap, hi, rfl, HI⟩ := hrel
  by_cases hin : i < n
  ·have ji : (i : Int) < (n : Int) := by omega
   have HG1 := Lib.hid (HGo.out _ _ HI.out.dt)
   by_cases hg : goD (listD one i s).2 = true
   ·rw [hg] at HG1;have HO1 := Lib.hid (HOne.out _ _ HI.out.dt.here HI.out.dt.fr);clear HOne HGo;go_wp2_with fail
    refine HG1.out.mono ?_;rintro e w1 ⟨rfl, h1⟩;subst h1;clear HG1;go_wp2_with fail
    refine HO1.out.mono ?_;rintro e w2 ⟨x, rfl, hx, h2⟩;obtain ⟨xs, hxl, hst⟩ := HI.out.step HR.out hg hx h2 (by decide) (by decide) (by decide);have HXl := Lib.hid hxl;clear hx h2 hxl HO1 HI;obtain ⟨W, hW⟩ : ∃ W, W = w2.alloc (.cells (lkE x).toArray 72) := ⟨_, rfl⟩
    obtain ⟨h3, h4, h5, h6⟩ := hst W hW;have HO3 := Lib.hid h3;have HG3 := Lib.hid h4;have HS3 := Lib.hid h5;have HNx := Lib.hid h6;clear h3 h4 h5 h6 hst;subst hW;simp only [lkE];go_wp2_with (at_builtin; refine wpList_appG (enc := lkE) (x := x) (xs := xs) rfl 29 72 (.tmp 16) (.tmp 19) rfl 5 40 _ Tryz.underlying29 infoCh (by decide) rfl (by decide) lk_ok (by rfl) HO3.out (by rfl) HG3.out (by rw [HXl.out]; omega) HS3.out ?_)
    intro va vc w4 HO4 HG4;have HI4 := Lib.hid (HNx.out va vc w4 HO4.out HG4.out);rw [HXl.out];clear HO4 HG4 HO3 HG3 HS3 HNx HXl;go_wp2_with fail
    go_roundw
    case rel => exact ⟨i + 1, va, vc, by omega, rfl, HI4⟩
    case measure => simp [lenOf]; omega
   ·rw [show goD (listD one i s).2 = false by simpa using hg] at HG1;go_wp2_with fail
    refine HG1.out.mono ?_;rintro e w1 ⟨rfl, h1⟩;subst h1;clear HG1;go_wp2_with fail
    go_ret
    rw [listD_stop one i s hg n hi];obtain ⟨xs, hxo, hxl, hxt⟩ := HI.out.ex
    first | exact ⟨_, xs, rfl, hxo, hxt, HI.out.dt⟩ | exact ⟨_, rfl, xs, hxo, hxt, HI.out.dt⟩
  ·obtain rfl : i = n := by omega
   have ji : ¬ (i : Int) < (i : Int) := by omega
   go_wp2_with fail
   go_ret
   obtain ⟨xs, hxo, hxl, hxt⟩ := HI.out.ex
   first | exact ⟨_, xs, rfl, hxo, hxt, HI.out.dt⟩ | exact ⟨_, rfl, xs, hxo, hxt, HI.out.dt⟩
end
theorem infoSt : (Tryz.prog.info? 74).map (fun i => (i.zero, i.size, i.bytes)) = some (some (.agg #[.int .i64 0, .int .i64 0]), 2, 16) := by kernel_rfl
section
variable {B kb : Nat} {raw : Value} {im en : List Value} {q : Pt} {p g : Nat} {s : D} {w : World}
theorem listStX {α : Type} {R : World → (Int × Int) → α → Prop} (hR : ∀ W W' x y, R W x y → Rz 74 W W' → R W' x y) (one : D → α × D) (hone : ∀ W t, Dt B kb raw im en q p g W t W → Fd B w W → Calls Tryz.prog 179 #[.pointer (some ⟨kb, 0, none⟩)] W fun e w' => ∃ x, e = .returned (.agg (stE x).toArray) ∧ R w' x (one t).1 ∧ Dt B kb raw im en q p g W (one t).2 w') (h : Dt B kb raw im en q p g w s w) {n : Nat} (hn : n ≤ 1048576) :
  Calls Tryz.prog 178 #[.pointer (some ⟨kb, 0, none⟩), .int .i64 (n : Int), (.func (.func 179) #[.pointer (some ⟨kb, 0, none⟩)] #[])] w fun e w' => ∃ v xs, e = .returned v ∧ OwnG 74 2 stE w' w.heap.size v xs ∧ T2 (R w') xs (listD one n s).1 ∧ Dt B kb raw im en q p g w (listD one n s).2 w' := by
 have H0 : Hid (Lst 74 2 stE R one B kb raw im en q p g w s (.slice none 0 0) 0 w) := ⟨⟨[], OwnG.nil _ _ _ _ _, rfl, .nil⟩, h⟩
 have HOne := Lib.hid hone;have HR := Lib.hid hR;have HGo : Hid (∀ W s', Dt B kb raw im en q p g w s' W → Calls Tryz.prog 173 #[.pointer (some ⟨kb, 0, none⟩)] W fun e w' => e = .returned (.bool (goD s')) ∧ w' = W) := fun W s' hW => dgoesX hW;have HLt : Hid (kb < w.heap.size) := h.lt;clear hone hR h;go_enter Tryz.func178, Tryz.ntmps178
 go_wp2_with fail
 go_loopw [7] (fun v wr => ∃ (i : Nat) (ao : Option Addr) (cap : Nat), i ≤ n ∧ v = .slice ao i cap ∧ Hid (Lst 74 2 stE R one B kb raw im en q p g w s (.slice ao i cap) i wr)) (fun v _ => n - lenOf v)
 case atStart => exact ⟨0, none, 0, Nat.zero_le _, rfl, H0⟩
 case round =>
  clear H0;obtain ⟨i, ao, cap, hi, rfl, HI⟩ := hrel
  by_cases hin : i < n
  ·have ji : (i : Int) < (n : Int) := by omega
   have HG1 := Lib.hid (HGo.out _ _ HI.out.dt)
   by_cases hg : goD (listD one i s).2 = true
   ·rw [hg] at HG1;have HO1 := Lib.hid (HOne.out _ _ HI.out.dt.here HI.out.dt.fr);clear HOne HGo;go_wp2_with fail
    refine HG1.out.mono ?_;rintro e w1 ⟨rfl, h1⟩;subst h1;clear HG1;go_wp2_with fail
    refine HO1.out.mono ?_;rintro e w2 ⟨x, rfl, hx, h2⟩;obtain ⟨xs, hxl, hst⟩ := HI.out.step HR.out hg hx h2 (by decide) (by decide) (by decide);have HXl := Lib.hid hxl;clear hx h2 hxl HO1 HI;obtain ⟨W, hW⟩ : ∃ W, W = w2.alloc (.cells (stE x).toArray 74) := ⟨_, rfl⟩
    obtain ⟨h3, h4, h5, h6⟩ := hst W hW;have HO3 := Lib.hid h3;have HG3 := Lib.hid h4;have HS3 := Lib.hid h5;have HNx := Lib.hid h6;clear h3 h4 h5 h6 hst;subst hW;simp only [stE];go_wp2_with (at_builtin; refine wpList_appG (enc := stE) (x := x) (xs := xs) rfl 75 74 (.tmp 16) (.tmp 19) rfl 2 16 _ Tryz.underlying75 infoSt (by decide) rfl (by decide) st_ok (by rfl) HO3.out (by rfl) HG3.out (by rw [HXl.out]; omega) HS3.out ?_)
    intro va vc w4 HO4 HG4;have HI4 := Lib.hid (HNx.out va vc w4 HO4.out HG4.out);rw [HXl.out];clear HO4 HG4 HO3 HG3 HS3 HNx HXl;go_wp2_with fail
    go_roundw
    case rel => exact ⟨i + 1, va, vc, by omega, rfl, HI4⟩
    case measure => simp [lenOf]; omega
   ·rw [show goD (listD one i s).2 = false by simpa using hg] at HG1;go_wp2_with fail
    refine HG1.out.mono ?_;rintro e w1 ⟨rfl, h1⟩;subst h1;clear HG1;go_wp2_with fail
    go_ret
    rw [listD_stop one i s hg n hi];obtain ⟨xs, hxo, hxl, hxt⟩ := HI.out.ex
    first | exact ⟨_, xs, rfl, hxo, hxt, HI.out.dt⟩ | exact ⟨_, rfl, xs, hxo, hxt, HI.out.dt⟩
  ·obtain rfl : i = n := by omega
   have ji : ¬ (i : Int) < (i : Int) := by omega
   go_wp2_with fail
   go_ret
   obtain ⟨xs, hxo, hxl, hxt⟩ := HI.out.ex
   first | exact ⟨_, xs, rfl, hxo, hxt, HI.out.dt⟩ | exact ⟨_, rfl, xs, hxo, hxt, HI.out.dt⟩
end
theorem infoLa : (Tryz.prog.info? 75).map (fun i => (i.zero, i.size, i.bytes)) = some (some (.slice none 0 0), 1, 24) := by kernel_rfl
section
variable {B kb : Nat} {raw : Value} {im en : List Value} {q : Pt} {p g : Nat} {s : D} {w : World}
theorem listLaX {α : Type} {R : World → SlV → α → Prop} (hR : ∀ W W' x y, R W x y → Rz 75 W W' → R W' x y) (one : D → α × D) (hone : ∀ W t, Dt B kb raw im en q p g W t W → Fd B w W → Calls Tryz.prog 159 #[.pointer (some ⟨kb, 0, none⟩)] W fun e w' => ∃ x, e = .returned (slE1 x) ∧ R w' x (one t).1 ∧ Dt B kb raw im en q p g W (one t).2 w') (h : Dt B kb raw im en q p g w s w) {n : Nat} (hn : n ≤ 1048576) :
  Calls Tryz.prog 158 #[.pointer (some ⟨kb, 0, none⟩), .int .i64 (n : Int), (.func (.func 159) #[.pointer (some ⟨kb, 0, none⟩)] #[])] w fun e w' => ∃ v xs, e = .returned v ∧ OwnG 75 1 slE w' w.heap.size v xs ∧ T2 (R w') xs (listD one n s).1 ∧ Dt B kb raw im en q p g w (listD one n s).2 w' := by
 have H0 : Hid (Lst 75 1 slE R one B kb raw im en q p g w s (.slice none 0 0) 0 w) := ⟨⟨[], OwnG.nil _ _ _ _ _, rfl, .nil⟩, h⟩
 have HOne := Lib.hid hone;have HR := Lib.hid hR;have HGo : Hid (∀ W s', Dt B kb raw im en q p g w s' W → Calls Tryz.prog 173 #[.pointer (some ⟨kb, 0, none⟩)] W fun e w' => e = .returned (.bool (goD s')) ∧ w' = W) := fun W s' hW => dgoesX hW;have HLt : Hid (kb < w.heap.size) := h.lt;clear hone hR h;go_enter Tryz.func158, Tryz.ntmps158
 go_wp2_with fail
 go_loopw [7] (fun v wr => ∃ (i : Nat) (ao : Option Addr) (cap : Nat), i ≤ n ∧ v = .slice ao i cap ∧ Hid (Lst 75 1 slE R one B kb raw im en q p g w s (.slice ao i cap) i wr)) (fun v _ => n - lenOf v)
 case atStart => exact ⟨0, none, 0, Nat.zero_le _, rfl, H0⟩
 case round =>
  clear H0;obtain ⟨i, ao, cap, hi, rfl, HI⟩ := hrel
  by_cases hin : i < n
  ·have ji : (i : Int) < (n : Int) := by omega
   have HG1 := Lib.hid (HGo.out _ _ HI.out.dt)
   by_cases hg : goD (listD one i s).2 = true
   ·rw [hg] at HG1;have HO1 := Lib.hid (HOne.out _ _ HI.out.dt.here HI.out.dt.fr);clear HOne HGo;go_wp2_with fail
    refine HG1.out.mono ?_;rintro e w1 ⟨rfl, h1⟩;subst h1;clear HG1;go_wp2_with fail
    refine HO1.out.mono ?_;rintro e w2 ⟨x, rfl, hx, h2⟩;obtain ⟨xs, hxl, hst⟩ := HI.out.step HR.out hg hx h2 (by decide) (by decide) (by decide);have HXl := Lib.hid hxl;clear hx h2 hxl HO1 HI;obtain ⟨W, hW⟩ : ∃ W, W = w2.alloc (.cells (slE x).toArray 75) := ⟨_, rfl⟩
    obtain ⟨h3, h4, h5, h6⟩ := hst W hW;have HO3 := Lib.hid h3;have HG3 := Lib.hid h4;have HS3 := Lib.hid h5;have HNx := Lib.hid h6;clear h3 h4 h5 h6 hst;subst hW;simp only [slE, slE1];go_wp2_with (at_builtin; refine wpList_appG (enc := slE) (x := x) (xs := xs) rfl 76 75 (.tmp 16) (.tmp 19) rfl 1 24 _ Tryz.underlying76 infoLa (by decide) rfl (by decide) sl_ok (by rfl) HO3.out (by rfl) HG3.out (by rw [HXl.out]; omega) HS3.out ?_)
    intro va vc w4 HO4 HG4;have HI4 := Lib.hid (HNx.out va vc w4 HO4.out HG4.out);rw [HXl.out];clear HO4 HG4 HO3 HG3 HS3 HNx HXl;go_wp2_with fail
    go_roundw
    case rel => exact ⟨i + 1, va, vc, by omega, rfl, HI4⟩
    case measure => simp [lenOf]; omega
   ·rw [show goD (listD one i s).2 = false by simpa using hg] at HG1;go_wp2_with fail
    refine HG1.out.mono ?_;rintro e w1 ⟨rfl, h1⟩;subst h1;clear HG1;go_wp2_with fail
    go_ret
    rw [listD_stop one i s hg n hi];obtain ⟨xs, hxo, hxl, hxt⟩ := HI.out.ex
    first | exact ⟨_, xs, rfl, hxo, hxt, HI.out.dt⟩ | exact ⟨_, rfl, xs, hxo, hxt, HI.out.dt⟩
  ·obtain rfl : i = n := by omega
   have ji : ¬ (i : Int) < (i : Int) := by omega
   go_wp2_with fail
   go_ret
   obtain ⟨xs, hxo, hxl, hxt⟩ := HI.out.ex
   first | exact ⟨_, xs, rfl, hxo, hxt, HI.out.dt⟩ | exact ⟨_, rfl, xs, hxo, hxt, HI.out.dt⟩
end
theorem infoSc : (Tryz.prog.info? 78).map (fun i => (i.zero, i.size, i.bytes)) = some (some (.agg #[.int .i64 0, .slice none 0 0]), 2, 32) := by kernel_rfl
section
variable {B kb : Nat} {raw : Value} {im en : List Value} {q : Pt} {p g : Nat} {s : D} {w : World}
theorem listScX {α : Type} {R : World → (Int × SlV) → α → Prop} (hR : ∀ W W' x y, R W x y → Rz 78 W W' → R W' x y) (one : D → α × D) {b1 b2 : Nat} (hone : ∀ W t, Dt B kb raw im en q p g W t W → Fd B w W → Calls Tryz.prog 157 #[.pointer (some ⟨b1, 0, none⟩), .pointer (some ⟨b2, 0, none⟩)] W fun e w' => ∃ x, e = .returned (.agg (scE x).toArray) ∧ R w' x (one t).1 ∧ Dt B kb raw im en q p g W (one t).2 w') (h : Dt B kb raw im en q p g w s w) {n : Nat} (hn : n ≤ 1048576) :
  Calls Tryz.prog 156 #[.pointer (some ⟨kb, 0, none⟩), .int .i64 (n : Int), (.func (.func 157) #[] #[.pointer (some ⟨b1, 0, none⟩), .pointer (some ⟨b2, 0, none⟩)])] w fun e w' => ∃ v xs, e = .returned v ∧ OwnG 78 2 scE w' w.heap.size v xs ∧ T2 (R w') xs (listD one n s).1 ∧ Dt B kb raw im en q p g w (listD one n s).2 w' := by
 have H0 : Hid (Lst 78 2 scE R one B kb raw im en q p g w s (.slice none 0 0) 0 w) := ⟨⟨[], OwnG.nil _ _ _ _ _, rfl, .nil⟩, h⟩
 have HOne := Lib.hid hone;have HR := Lib.hid hR;have HGo : Hid (∀ W s', Dt B kb raw im en q p g w s' W → Calls Tryz.prog 173 #[.pointer (some ⟨kb, 0, none⟩)] W fun e w' => e = .returned (.bool (goD s')) ∧ w' = W) := fun W s' hW => dgoesX hW;have HLt : Hid (kb < w.heap.size) := h.lt;clear hone hR h;go_enter Tryz.func156, Tryz.ntmps156
 go_wp2_with fail
 go_loopw [7] (fun v wr => ∃ (i : Nat) (ao : Option Addr) (cap : Nat), i ≤ n ∧ v = .slice ao i cap ∧ Hid (Lst 78 2 scE R one B kb raw im en q p g w s (.slice ao i cap) i wr)) (fun v _ => n - lenOf v)
 case atStart => exact ⟨0, none, 0, Nat.zero_le _, rfl, H0⟩
 case round =>
  clear H0;obtain ⟨i, ao, cap, hi, rfl, HI⟩ := hrel
  by_cases hin : i < n
  ·have ji : (i : Int) < (n : Int) := by omega
   have HG1 := Lib.hid (HGo.out _ _ HI.out.dt)
   by_cases hg : goD (listD one i s).2 = true
   ·rw [hg] at HG1;have HO1 := Lib.hid (HOne.out _ _ HI.out.dt.here HI.out.dt.fr);clear HOne HGo;go_wp2_with fail
    refine HG1.out.mono ?_;rintro e w1 ⟨rfl, h1⟩;subst h1;clear HG1;go_wp2_with fail
    refine HO1.out.mono ?_;rintro e w2 ⟨x, rfl, hx, h2⟩;obtain ⟨xs, hxl, hst⟩ := HI.out.step HR.out hg hx h2 (by decide) (by decide) (by decide);have HXl := Lib.hid hxl;clear hx h2 hxl HO1 HI;obtain ⟨W, hW⟩ : ∃ W, W = w2.alloc (.cells (scE x).toArray 78) := ⟨_, rfl⟩
    obtain ⟨h3, h4, h5, h6⟩ := hst W hW;have HO3 := Lib.hid h3;have HG3 := Lib.hid h4;have HS3 := Lib.hid h5;have HNx := Lib.hid h6;clear h3 h4 h5 h6 hst;subst hW;simp only [scE, slE1];go_wp2_with (at_builtin; refine wpList_appG (enc := scE) (x := x) (xs := xs) rfl 30 78 (.tmp 16) (.tmp 19) rfl 2 32 _ Tryz.underlying30 infoSc (by decide) rfl (by decide) sc_ok (by rfl) HO3.out (by rfl) HG3.out (by rw [HXl.out]; omega) HS3.out ?_)
    intro va vc w4 HO4 HG4;have HI4 := Lib.hid (HNx.out va vc w4 HO4.out HG4.out);rw [HXl.out];clear HO4 HG4 HO3 HG3 HS3 HNx HXl;go_wp2_with fail
    go_roundw
    case rel => exact ⟨i + 1, va, vc, by omega, rfl, HI4⟩
    case measure => simp [lenOf]; omega
   ·rw [show goD (listD one i s).2 = false by simpa using hg] at HG1;go_wp2_with fail
    refine HG1.out.mono ?_;rintro e w1 ⟨rfl, h1⟩;subst h1;clear HG1;go_wp2_with fail
    go_ret
    rw [listD_stop one i s hg n hi];obtain ⟨xs, hxo, hxl, hxt⟩ := HI.out.ex
    first | exact ⟨_, xs, rfl, hxo, hxt, HI.out.dt⟩ | exact ⟨_, rfl, xs, hxo, hxt, HI.out.dt⟩
  ·obtain rfl : i = n := by omega
   have ji : ¬ (i : Int) < (i : Int) := by omega
   go_wp2_with fail
   go_ret
   obtain ⟨xs, hxo, hxl, hxt⟩ := HI.out.ex
   first | exact ⟨_, xs, rfl, hxo, hxt, HI.out.dt⟩ | exact ⟨_, rfl, xs, hxo, hxt, HI.out.dt⟩
end
end Go.Proofs.YtmfkggngjeolcaaGreatDoor
namespace Go.Proofs.YtmfkggngjeolcaaGreatDoor
open Go.RowKit Bn Dc
section
variable {B kb : Nat} {raw : Value} {im en : List Value} {q : Pt} {p g : Nat} {w0 : World} {s : D} {w w' : World}
structure Db (t : TypeId) (n : Nat) (B kb : Nat) (raw : Value) (im en : List Value) (q : Pt) (p g : Nat) (w0 : World) (s : D) (w : World) : Prop where
 dt : Dt B kb raw im en q p g w0 s w
 tg : Tagd w t n
 hn : w0.heap.size ≤ n
 h1 : t ≠ 144
 h2 : t ≠ 191
 h3 : t ≠ 5
theorem Db.set {t : TypeId} {n : Nat} (h : Db t n B kb raw im en q p g w0 s w) (i : Nat) (u : Value) : Db t n B kb raw im en q p g w0 s (w.setCell ⟨n, i, none⟩ u) := by
 have hk := Keeps.setCell w n i u;have nb : n ≠ kb := fun e => h.h1 (tag_same h.tg ⟨_, e ▸ h.dt.blk⟩);have np : p ≠ n := fun e => h.h2 (tag_same h.tg ⟨_, e ▸ h.dt.rd.1⟩);have ng : g ≠ n := fun e => h.h3 (tag_same h.tg ⟨_, e ▸ h.dt.rd.2.1⟩);refine ⟨⟨(hk.block kb h.dt.lt (fun e => nb e.symm)).trans h.dt.blk, h.dt.him, h.dt.hen, h.dt.hpt, h.dt.hfi, h.dt.hlen, h.dt.rd.keeps hk np ng, h.dt.hB, ?_⟩, ?_, h.hn, h.h1, h.h2, h.h3⟩
 ·have hf := h.dt.fr;have hn := h.hn;exact ⟨hk.os.trans hf.os, hk.tape.trans hf.tape, hk.output.trans hf.output, Nat.le_trans hf.size hk.size, fun j hj hq => (hk.block j (Nat.lt_of_lt_of_le hj hf.size) (fun e => by omega)).trans (hf.block j hj hq)⟩
 ·obtain ⟨cur, hc⟩ := h.tg;exact ⟨cur.setIfInBounds i u, by simp [World.setCell, Array.getElem?_modify, hc]⟩
theorem Dt.box (h : Dt B kb raw im en q p g w0 s w) {t : TypeId} {n : Nat} {cs : Array Value} (hb : w0.heap[n]? = some (.cells cs t (0, 0))) (h1 : t ≠ 144) (h2 : t ≠ 191) : w.heap[n]? = some (.cells cs t (0, 0)) := (h.fr.block' ⟨_, hb⟩ h1 h2).trans hb
theorem box_cell {n : Nat} {cs : List Value} {t : TypeId} (h : w.heap[n]? = some (.cells cs.toArray t (0, 0))) (i : Nat) : w.cell? ⟨n, i, none⟩ = cs[i]? := by rw [cell_of_row _ _ i _ _ _ h, List.getElem?_toArray]
theorem box_free {n : Nat} {cs : Array Value} {t : TypeId} (h : w.heap[n]? = some (.cells cs t (0, 0))) (i : Nat) : w.frozen? ⟨n, i, none⟩ = false := by simp [World.frozen?, h]
theorem box_set {n : Nat} {cs : List Value} {t : TypeId} (h : w.heap[n]? = some (.cells cs.toArray t (0, 0))) (i : Nat) (u : Value) : (w.setCell ⟨n, i, none⟩ u).heap[n]? = some (.cells (cs.set i u).toArray t (0, 0)) := by
 simp [World.setCell, Array.getElem?_modify, h]
theorem Dt.boxed (h : Dt B kb raw im en q p g w0 s w) (o : Obj) : Dt B kb raw im en q p g (w.alloc o) s (w.alloc o) ∧ Fd B w0 (w.alloc o) ∧ (w.alloc o).heap[w.heap.size]? = some o ∧ Below w.heap.size w (w.alloc o) := by
 have hb : Below w.heap.size w (w.alloc o) := (Below.refl _ _).alloc (Nat.le_refl _) _;exact ⟨(h.below hb).here, h.fr.trans (Fd.of_below hb), heap_alloc_new w o, hb⟩
end
end Go.Proofs.YtmfkggngjeolcaaGreatDoor
namespace Go.Proofs.YtmfkggngjeolcaaGreatDoor
open Go.RowKit Bn Dc
section
variable {B kb : Nat} {raw : Value} {im en : List Value} {q : Pt} {p g : Nat} {w0 : World} {s : D} {w w' : World}
theorem tenX (h : Dt B kb raw im en q p g w0 s w) : Calls Tryz.prog 147 #[.pointer (some ⟨kb, 0, none⟩)] w fun e w' => e = .returned (.agg (tnE (tenD q s).1).toArray) ∧ Dt B kb raw im en q p g w0 (tenD q s).2 w' := by
 obtain ⟨h1, hf1, hb1, hl1⟩ := h.boxed (.cells ([.int .i64 0, .int .i64 0, .bool false, .int .i64 0, .int .i64 0, .int .i64 0] : List Value).toArray 66);have HF := Lib.hid hf1;have HS : Hid (w0.heap.size ≤ w.heap.size) := h.fr.size;have HB : Hid (∀ W t, Dt B kb raw im en q p g (w.alloc (.cells ([.int .i64 0, .int .i64 0, .bool false, .int .i64 0, .int .i64 0, .int .i64 0] : List Value).toArray 66)) t W → W.heap[w.heap.size]? = some (.cells ([.int .i64 0, .int .i64 0, .bool false, .int .i64 0, .int .i64 0, .int .i64 0] : List Value).toArray 66 (0, 0))) := fun W t hW => hW.box hb1 (by decide) (by decide);have H0 : Hid (Dt B kb raw im en q p g (w.alloc (.cells ([.int .i64 0, .int .i64 0, .bool false, .int .i64 0, .int .i64 0, .int .i64 0] : List Value).toArray 66)) s (w.alloc (.cells ([.int .i64 0, .int .i64 0, .bool false, .int .i64 0, .int .i64 0, .int .i64 0] : List Value).toArray 66))) := h1;clear h h1 hf1 hb1 hl1;obtain ⟨v0, s1, e0⟩ : ∃ v t, takeD q 1 s = (v, t) := ⟨_, _, rfl⟩
 obtain ⟨v1, s2, e1⟩ : ∃ v t, flagD q s1 = (v, t) := ⟨_, _, rfl⟩
 obtain ⟨v2, s3, e2⟩ : ∃ v t, takeD q 1 s2 = (v, t) := ⟨_, _, rfl⟩
 obtain ⟨v3, s4, e3⟩ : ∃ v t, takeD q 1 s3 = (v, t) := ⟨_, _, rfl⟩
 obtain ⟨v4, s5, e4⟩ : ∃ v t, noneD q s4 = (v, t) := ⟨_, _, rfl⟩
 obtain ⟨v5, s6, e5⟩ : ∃ v t, noneD q s5 = (v, t) := ⟨_, _, rfl⟩
 have K0 : Hid (∀ W w9, Hid (Dt B kb raw im en q p g w9 s W) → Calls Tryz.prog 174 #[.pointer (some ⟨kb, 0, none⟩)] W fun e w' => e = .returned (.int .i64 (v0 : Nat)) ∧ Dt B kb raw im en q p g w9 s1 w') := fun W w9 hW => by have h9 := dbyteX hW.out; rw [e0] at h9; exact h9
 have K1 : Hid (∀ W w9, Hid (Dt B kb raw im en q p g w9 s1 W) → Calls Tryz.prog 175 #[.pointer (some ⟨kb, 0, none⟩)] W fun e w' => e = .returned (.bool v1) ∧ Dt B kb raw im en q p g w9 s2 w') := fun W w9 hW => by have h9 := dflagX hW.out; rw [e1] at h9; exact h9
 have K2 : Hid (∀ W w9, Hid (Dt B kb raw im en q p g w9 s2 W) → Calls Tryz.prog 174 #[.pointer (some ⟨kb, 0, none⟩)] W fun e w' => e = .returned (.int .i64 (v2 : Nat)) ∧ Dt B kb raw im en q p g w9 s3 w') := fun W w9 hW => by have h9 := dbyteX hW.out; rw [e2] at h9; exact h9
 have K3 : Hid (∀ W w9, Hid (Dt B kb raw im en q p g w9 s3 W) → Calls Tryz.prog 174 #[.pointer (some ⟨kb, 0, none⟩)] W fun e w' => e = .returned (.int .i64 (v3 : Nat)) ∧ Dt B kb raw im en q p g w9 s4 w') := fun W w9 hW => by have h9 := dbyteX hW.out; rw [e3] at h9; exact h9
 have K4 : Hid (∀ W w9, Hid (Dt B kb raw im en q p g w9 s4 W) → Calls Tryz.prog 155 #[.pointer (some ⟨kb, 0, none⟩)] W fun e w' => e = .returned (.int .i64 v4) ∧ Dt B kb raw im en q p g w9 s5 w') := fun W w9 hW => by have h9 := dnoneX hW.out; rw [e4] at h9; exact h9
 have K5 : Hid (∀ W w9, Hid (Dt B kb raw im en q p g w9 s5 W) → Calls Tryz.prog 155 #[.pointer (some ⟨kb, 0, none⟩)] W fun e w' => e = .returned (.int .i64 v5) ∧ Dt B kb raw im en q p g w9 s6 w') := fun W w9 hW => by have h9 := dnoneX hW.out; rw [e5] at h9; exact h9
 have HE : tenD q s = ((⟨v0, v5, v1, v2, v4, v3⟩ : Tn), s6) := by simp only [tenD, e0, e1, e2, e3, e4, e5]
 rw [HE];clear HE e0 e1 e2 e3 e4 e5;dsimp only;go_enter Tryz.func147, Tryz.ntmps147
 go_wp2_with fail
 refine (K0.out _ _ H0).mono ?_;rintro e w1 ⟨rfl, h9⟩;have H1 : Hid (Dt B kb raw im en q p g (w.alloc (.cells ([.int .i64 0, .int .i64 0, .bool false, .int .i64 0, .int .i64 0, .int .i64 0] : List Value).toArray 66)) s1 w1) := h9;clear h9 H0 K0;go_wp2_with fail
 refine (K1.out _ _ H1).mono ?_;rintro e w2 ⟨rfl, h9⟩;have H2 : Hid (Dt B kb raw im en q p g (w.alloc (.cells ([.int .i64 0, .int .i64 0, .bool false, .int .i64 0, .int .i64 0, .int .i64 0] : List Value).toArray 66)) s2 w2) := h9;clear h9 H1 K1;go_wp2_with fail
 refine (K2.out _ _ H2).mono ?_;rintro e w3 ⟨rfl, h9⟩;have H3 : Hid (Dt B kb raw im en q p g (w.alloc (.cells ([.int .i64 0, .int .i64 0, .bool false, .int .i64 0, .int .i64 0, .int .i64 0] : List Value).toArray 66)) s3 w3) := h9;clear h9 H2 K2;go_wp2_with fail
 refine (K3.out _ _ H3).mono ?_;rintro e w4 ⟨rfl, h9⟩;have H4 : Hid (Dt B kb raw im en q p g (w.alloc (.cells ([.int .i64 0, .int .i64 0, .bool false, .int .i64 0, .int .i64 0, .int .i64 0] : List Value).toArray 66)) s4 w4) := h9;clear h9 H3 K3;go_wp2_with fail
 refine (K4.out _ _ H4).mono ?_;rintro e w5 ⟨rfl, h9⟩;have H5 : Hid (Dt B kb raw im en q p g (w.alloc (.cells ([.int .i64 0, .int .i64 0, .bool false, .int .i64 0, .int .i64 0, .int .i64 0] : List Value).toArray 66)) s5 w5) := h9;clear h9 H4 K4;go_wp2_with fail
 refine (K5.out _ _ H5).mono ?_;rintro e w6 ⟨rfl, h9⟩;have H6 : Hid (Dt B kb raw im en q p g (w.alloc (.cells ([.int .i64 0, .int .i64 0, .bool false, .int .i64 0, .int .i64 0, .int .i64 0] : List Value).toArray 66)) s6 w6) := h9;clear h9 H5 K5;have hbx := HB.out _ _ H6.out;have d0 := box_cell hbx 0;have f0 := box_free hbx 0;have d1 := box_cell hbx 1;have f1 := box_free hbx 1;have d2 := box_cell hbx 2;have f2 := box_free hbx 2;have d3 := box_cell hbx 3;have f3 := box_free hbx 3;have d4 := box_cell hbx 4;have f4 := box_free hbx 4;have d5 := box_cell hbx 5;have f5 := box_free hbx 5;simp only [List.getElem?_cons_zero, List.getElem?_cons_succ] at d0 d1 d2 d3 d4 d5;have HD : Hid (Db 66 w.heap.size B kb raw im en q p g w0 s6 w6) := ⟨H6.out.since HF.out, ⟨_, hbx⟩, HS.out, by decide, by decide, by decide⟩
 have HZ := Lib.hid hbx;clear hbx H6 HB HF HS;go_wp2_with fail
 generalize hW : World.setCell _ _ _ = W;have hz : W.heap[w.heap.size]? = some (.cells (tnE (⟨v0, v5, v1, v2, v4, v3⟩ : Tn)).toArray 66 (0, 0)) := by rw [← hW]; exact (box_set (box_set (box_set (box_set (box_set (box_set HZ.out _ _) _ _) _ _) _ _) _ _) _ _)
 have HW : Hid (Dt B kb raw im en q p g w0 s6 W) := by
  refine Db.dt (t := 66) (n := w.heap.size) ?_;rw [← hW];exact (Db.set (Db.set (Db.set (Db.set (Db.set (Db.set HD.out _ _) _ _) _ _) _ _) _ _) _ _)
 clear hW HD HZ d0 f0 d1 f1 d2 f2 d3 f3 d4 f4 d5 f5;simp only [tnE] at hz;have g0 := box_cell hz 0;have g1 := box_cell hz 1;have g2 := box_cell hz 2;have g3 := box_cell hz 3;have g4 := box_cell hz 4;have g5 := box_cell hz 5;simp only [List.getElem?_cons_zero, List.getElem?_cons_succ] at g0 g1 g2 g3 g4 g5;clear hz;refine bodyPost_ret (v := .agg (tnE (⟨v0, v5, v1, v2, v4, v3⟩ : Tn)).toArray) (by simp [results, Tryz.results147, go_sem, tnE, g0, g1, g2, g3, g4, g5]) rfl ?_;exact ⟨rfl, HW.out⟩
theorem portX (h : Dt B kb raw im en q p g w0 s w) : Calls Tryz.prog 149 #[.pointer (some ⟨kb, 0, none⟩)] w fun e w' => e = .returned (.agg (poE (portD q s).1).toArray) ∧ Dt B kb raw im en q p g w0 (portD q s).2 w' := by
 obtain ⟨h1, hf1, hb1, hl1⟩ := h.boxed (.cells ([.int .i64 0] : List Value).toArray 68);have HF := Lib.hid hf1;have HS : Hid (w0.heap.size ≤ w.heap.size) := h.fr.size;have HB : Hid (∀ W t, Dt B kb raw im en q p g (w.alloc (.cells ([.int .i64 0] : List Value).toArray 68)) t W → W.heap[w.heap.size]? = some (.cells ([.int .i64 0] : List Value).toArray 68 (0, 0))) := fun W t hW => hW.box hb1 (by decide) (by decide);have H0 : Hid (Dt B kb raw im en q p g (w.alloc (.cells ([.int .i64 0] : List Value).toArray 68)) s (w.alloc (.cells ([.int .i64 0] : List Value).toArray 68))) := h1;obtain ⟨v0, s1, e0⟩ : ∃ v t, noneD q s = (v, t) := ⟨_, _, rfl⟩
 obtain ⟨s2, e1⟩ : ∃ t, zerosD q 6 s1 = t := ⟨_, rfl⟩
 have K0 : Hid (∀ W w9, Hid (Dt B kb raw im en q p g w9 s W) → Calls Tryz.prog 155 #[.pointer (some ⟨kb, 0, none⟩)] W fun e w' => e = .returned (.int .i64 v0) ∧ Dt B kb raw im en q p g w9 s1 w') := fun W w9 hW => by have h9 := dnoneX hW.out; rw [e0] at h9; exact h9
 have K1 : Hid (∀ W w9, Hid (Dt B kb raw im en q p g w9 s1 W) → Calls Tryz.prog 142 #[.pointer (some ⟨kb, 0, none⟩), .int .i64 6] W fun e w' => e = .returned (.tuple #[]) ∧ Dt B kb raw im en q p g w9 s2 w') := fun W w9 hW => by have h9 := dzerosX hW.out (n := 6) (by decide); rw [e1] at h9; exact h9
 have HE : portD q s = (v0, s2) := by simp only [portD, e0, e1]
 clear h h1 hf1 hb1 hl1;rw [HE];clear HE e0 e1;dsimp only;go_enter Tryz.func149, Tryz.ntmps149
 go_wp2_with fail
 refine (K0.out _ _ H0).mono ?_;rintro e w1 ⟨rfl, h9⟩;have H1 : Hid (Dt B kb raw im en q p g (w.alloc (.cells ([.int .i64 0] : List Value).toArray 68)) s1 w1) := h9;clear h9 H0 K0;obtain ⟨h2, hf2, hb2, hl2⟩ := H1.out.boxed (.cells ([.int .i64 v0] : List Value).toArray 68);have hlt : w.heap.size < w1.heap.size := by
  have h9 := H1.out.fr.size;simp at h9
  omega
 have hr2 := (hl2.block w.heap.size hlt).trans (HB.out _ _ H1.out);have HB2 : Hid (∀ W t, Dt B kb raw im en q p g (w1.alloc (.cells ([.int .i64 v0] : List Value).toArray 68)) t W → W.heap[w.heap.size]? = some (.cells ([.int .i64 0] : List Value).toArray 68 (0, 0)) ∧ W.heap[w1.heap.size]? = some (.cells ([.int .i64 v0] : List Value).toArray 68 (0, 0))) := fun W t hW => ⟨hW.box hr2 (by decide) (by decide), hW.box hb2 (by decide) (by decide)⟩
 have HF2 : Hid (Fd B w0 (w1.alloc (.cells ([.int .i64 v0] : List Value).toArray 68))) := HF.out.trans hf2;have nm1 : ¬ w.heap.size = w1.heap.size := by omega
 have nm2 : ¬ w1.heap.size = w.heap.size := by omega
 have HLt := Lib.hid hlt;replace H1 : Hid (Dt B kb raw im en q p g (w1.alloc (.cells ([.int .i64 v0] : List Value).toArray 68)) s1 (w1.alloc (.cells ([.int .i64 v0] : List Value).toArray 68))) := h2;clear h2 hf2 hb2 hl2 hr2 hlt HB HF;go_wp2_with fail
 refine (K1.out _ _ H1).mono ?_;rintro e w2 ⟨rfl, h9⟩;have H2 : Hid (Dt B kb raw im en q p g (w1.alloc (.cells ([.int .i64 v0] : List Value).toArray 68)) s2 w2) := h9;clear h9 H1 K1;obtain ⟨hbx, hby⟩ := HB2.out _ _ H2.out;have d0 := box_cell hbx 0;have f0 := box_free hbx 0;have l0 := box_cell hby 0;simp only [List.getElem?_cons_zero, List.getElem?_cons_succ] at d0 l0;have HD : Hid (Db 68 w.heap.size B kb raw im en q p g w0 s2 w2) := ⟨H2.out.since HF2.out, ⟨_, hbx⟩, HS.out, by decide, by decide, by decide⟩
 have HZ := Lib.hid hbx;clear hbx hby H2 HB2 HF2 HS HLt;go_wp2_with fail
 generalize hW : World.setCell _ _ _ = W;have hz : W.heap[w.heap.size]? = some (.cells (poE v0).toArray 68 (0, 0)) := by rw [← hW]; exact (box_set HZ.out _ _)
 have HW : Hid (Dt B kb raw im en q p g w0 s2 W) := by
  refine Db.dt (t := 68) (n := w.heap.size) ?_;rw [← hW];exact (Db.set HD.out _ _)
 clear hW HD HZ d0 f0 l0;simp only [poE] at hz;have g0 := box_cell hz 0;simp only [List.getElem?_cons_zero, List.getElem?_cons_succ] at g0;clear hz;refine bodyPost_ret (v := .agg (poE v0).toArray) (by simp [results, Tryz.results149, go_sem, poE, g0]) rfl ?_;exact ⟨rfl, HW.out⟩
theorem chX (h : Dt B kb raw im en q p g w0 s w) : Calls Tryz.prog 153 #[.pointer (some ⟨kb, 0, none⟩)] w fun e w' => e = .returned (.agg (lkE (chD q s).1).toArray) ∧ Dt B kb raw im en q p g w0 (chD q s).2 w' := by
 obtain ⟨h1, hf1, hb1, hl1⟩ := h.boxed (.cells ([.int .i64 0, .int .i64 0, .int .i64 0, .int .i64 0, .bool false] : List Value).toArray 72);have HF := Lib.hid hf1;have HS : Hid (w0.heap.size ≤ w.heap.size) := h.fr.size;have HB : Hid (∀ W t, Dt B kb raw im en q p g (w.alloc (.cells ([.int .i64 0, .int .i64 0, .int .i64 0, .int .i64 0, .bool false] : List Value).toArray 72)) t W → W.heap[w.heap.size]? = some (.cells ([.int .i64 0, .int .i64 0, .int .i64 0, .int .i64 0, .bool false] : List Value).toArray 72 (0, 0))) := fun W t hW => hW.box hb1 (by decide) (by decide);have H0 : Hid (Dt B kb raw im en q p g (w.alloc (.cells ([.int .i64 0, .int .i64 0, .int .i64 0, .int .i64 0, .bool false] : List Value).toArray 72)) s (w.alloc (.cells ([.int .i64 0, .int .i64 0, .int .i64 0, .int .i64 0, .bool false] : List Value).toArray 72))) := h1;obtain ⟨v0, s1, e0⟩ : ∃ v t, noneD q s = (v, t) := ⟨_, _, rfl⟩
 obtain ⟨v1, s2, e1⟩ : ∃ v t, noneD q s1 = (v, t) := ⟨_, _, rfl⟩
 obtain ⟨v2, s3, e2⟩ : ∃ v t, takeD q 1 s2 = (v, t) := ⟨_, _, rfl⟩
 obtain ⟨v3, s4, e3⟩ : ∃ v t, takeD q 1 s3 = (v, t) := ⟨_, _, rfl⟩
 obtain ⟨s5, e4⟩ : ∃ t, zerosD q 2 s4 = t := ⟨_, rfl⟩
 have K0 : Hid (∀ W w9, Hid (Dt B kb raw im en q p g w9 s W) → Calls Tryz.prog 155 #[.pointer (some ⟨kb, 0, none⟩)] W fun e w' => e = .returned (.int .i64 v0) ∧ Dt B kb raw im en q p g w9 s1 w') := fun W w9 hW => by have h9 := dnoneX hW.out; rw [e0] at h9; exact h9
 have K1 : Hid (∀ W w9, Hid (Dt B kb raw im en q p g w9 s1 W) → Calls Tryz.prog 155 #[.pointer (some ⟨kb, 0, none⟩)] W fun e w' => e = .returned (.int .i64 v1) ∧ Dt B kb raw im en q p g w9 s2 w') := fun W w9 hW => by have h9 := dnoneX hW.out; rw [e1] at h9; exact h9
 have K2 : Hid (∀ W w9, Hid (Dt B kb raw im en q p g w9 s2 W) → Calls Tryz.prog 174 #[.pointer (some ⟨kb, 0, none⟩)] W fun e w' => e = .returned (.int .i64 (v2 : Nat)) ∧ Dt B kb raw im en q p g w9 s3 w') := fun W w9 hW => by have h9 := dbyteX hW.out; rw [e2] at h9; exact h9
 have K3 : Hid (∀ W w9, Hid (Dt B kb raw im en q p g w9 s3 W) → Calls Tryz.prog 174 #[.pointer (some ⟨kb, 0, none⟩)] W fun e w' => e = .returned (.int .i64 (v3 : Nat)) ∧ Dt B kb raw im en q p g w9 s4 w') := fun W w9 hW => by have h9 := dbyteX hW.out; rw [e3] at h9; exact h9
 have K4 : Hid (∀ W w9, Hid (Dt B kb raw im en q p g w9 s4 W) → Calls Tryz.prog 142 #[.pointer (some ⟨kb, 0, none⟩), .int .i64 2] W fun e w' => e = .returned (.tuple #[]) ∧ Dt B kb raw im en q p g w9 s5 w') := fun W w9 hW => by have h9 := dzerosX hW.out (n := 2) (by decide); rw [e4] at h9; exact h9
 have HE : chD q s = ((⟨v0, v1, v2, v3, false⟩ : Lk), s5) := by simp only [chD, e0, e1, e2, e3, e4]
 clear h h1 hf1 hb1 hl1;rw [HE];clear HE e0 e1 e2 e3 e4;dsimp only;go_enter Tryz.func153, Tryz.ntmps153
 go_wp2_with fail
 refine (K0.out _ _ H0).mono ?_;rintro e w1 ⟨rfl, h9⟩;have H1 : Hid (Dt B kb raw im en q p g (w.alloc (.cells ([.int .i64 0, .int .i64 0, .int .i64 0, .int .i64 0, .bool false] : List Value).toArray 72)) s1 w1) := h9;clear h9 H0 K0;go_wp2_with fail
 refine (K1.out _ _ H1).mono ?_;rintro e w2 ⟨rfl, h9⟩;have H2 : Hid (Dt B kb raw im en q p g (w.alloc (.cells ([.int .i64 0, .int .i64 0, .int .i64 0, .int .i64 0, .bool false] : List Value).toArray 72)) s2 w2) := h9;clear h9 H1 K1;go_wp2_with fail
 refine (K2.out _ _ H2).mono ?_;rintro e w3 ⟨rfl, h9⟩;have H3 : Hid (Dt B kb raw im en q p g (w.alloc (.cells ([.int .i64 0, .int .i64 0, .int .i64 0, .int .i64 0, .bool false] : List Value).toArray 72)) s3 w3) := h9;clear h9 H2 K2;go_wp2_with fail
 refine (K3.out _ _ H3).mono ?_;rintro e w4 ⟨rfl, h9⟩;have H4 : Hid (Dt B kb raw im en q p g (w.alloc (.cells ([.int .i64 0, .int .i64 0, .int .i64 0, .int .i64 0, .bool false] : List Value).toArray 72)) s4 w4) := h9;clear h9 H3 K3;obtain ⟨h2, hf2, hb2, hl2⟩ := H4.out.boxed (.cells ([.int .i64 v0, .int .i64 v1, .int .i64 (v2 : Nat), .int .i64 (v3 : Nat), .bool false] : List Value).toArray 72);have hlt : w.heap.size < w4.heap.size := by
  have h9 := H4.out.fr.size;simp at h9
  omega
 have hr2 := (hl2.block w.heap.size hlt).trans (HB.out _ _ H4.out);have HB2 : Hid (∀ W t, Dt B kb raw im en q p g (w4.alloc (.cells ([.int .i64 v0, .int .i64 v1, .int .i64 (v2 : Nat), .int .i64 (v3 : Nat), .bool false] : List Value).toArray 72)) t W → W.heap[w.heap.size]? = some (.cells ([.int .i64 0, .int .i64 0, .int .i64 0, .int .i64 0, .bool false] : List Value).toArray 72 (0, 0)) ∧ W.heap[w4.heap.size]? = some (.cells ([.int .i64 v0, .int .i64 v1, .int .i64 (v2 : Nat), .int .i64 (v3 : Nat), .bool false] : List Value).toArray 72 (0, 0))) := fun W t hW => ⟨hW.box hr2 (by decide) (by decide), hW.box hb2 (by decide) (by decide)⟩
 have HF2 : Hid (Fd B w0 (w4.alloc (.cells ([.int .i64 v0, .int .i64 v1, .int .i64 (v2 : Nat), .int .i64 (v3 : Nat), .bool false] : List Value).toArray 72))) := HF.out.trans hf2;have nm1 : ¬ w.heap.size = w4.heap.size := by omega
 have nm2 : ¬ w4.heap.size = w.heap.size := by omega
 have HLt := Lib.hid hlt;replace H4 : Hid (Dt B kb raw im en q p g (w4.alloc (.cells ([.int .i64 v0, .int .i64 v1, .int .i64 (v2 : Nat), .int .i64 (v3 : Nat), .bool false] : List Value).toArray 72)) s4 (w4.alloc (.cells ([.int .i64 v0, .int .i64 v1, .int .i64 (v2 : Nat), .int .i64 (v3 : Nat), .bool false] : List Value).toArray 72))) := h2;clear h2 hf2 hb2 hl2 hr2 hlt HB HF;go_wp2_with fail
 refine (K4.out _ _ H4).mono ?_;rintro e w5 ⟨rfl, h9⟩;have H5 : Hid (Dt B kb raw im en q p g (w4.alloc (.cells ([.int .i64 v0, .int .i64 v1, .int .i64 (v2 : Nat), .int .i64 (v3 : Nat), .bool false] : List Value).toArray 72)) s5 w5) := h9;clear h9 H4 K4;obtain ⟨hbx, hby⟩ := HB2.out _ _ H5.out;have d0 := box_cell hbx 0;have f0 := box_free hbx 0;have l0 := box_cell hby 0;have d1 := box_cell hbx 1;have f1 := box_free hbx 1;have l1 := box_cell hby 1;have d2 := box_cell hbx 2;have f2 := box_free hbx 2;have l2 := box_cell hby 2;have d3 := box_cell hbx 3;have f3 := box_free hbx 3;have l3 := box_cell hby 3;have d4 := box_cell hbx 4;have f4 := box_free hbx 4;have l4 := box_cell hby 4;simp only [List.getElem?_cons_zero, List.getElem?_cons_succ] at d0 l0 d1 l1 d2 l2 d3 l3 d4 l4;have HD : Hid (Db 72 w.heap.size B kb raw im en q p g w0 s5 w5) := ⟨H5.out.since HF2.out, ⟨_, hbx⟩, HS.out, by decide, by decide, by decide⟩
 have HZ := Lib.hid hbx;clear hbx hby H5 HB2 HF2 HS HLt;go_wp2_with fail
 generalize hW : World.setCell _ _ _ = W;have hz : W.heap[w.heap.size]? = some (.cells (lkE (⟨v0, v1, v2, v3, false⟩ : Lk)).toArray 72 (0, 0)) := by rw [← hW]; exact (box_set (box_set (box_set (box_set (box_set HZ.out _ _) _ _) _ _) _ _) _ _)
 have HW : Hid (Dt B kb raw im en q p g w0 s5 W) := by
  refine Db.dt (t := 72) (n := w.heap.size) ?_;rw [← hW];exact (Db.set (Db.set (Db.set (Db.set (Db.set HD.out _ _) _ _) _ _) _ _) _ _)
 clear hW HD HZ d0 f0 l0 d1 f1 l1 d2 f2 l2 d3 f3 l3 d4 f4 l4;simp only [lkE] at hz;have g0 := box_cell hz 0;have g1 := box_cell hz 1;have g2 := box_cell hz 2;have g3 := box_cell hz 3;have g4 := box_cell hz 4;simp only [List.getElem?_cons_zero, List.getElem?_cons_succ] at g0 g1 g2 g3 g4;clear hz;refine bodyPost_ret (v := .agg (lkE (⟨v0, v1, v2, v3, false⟩ : Lk)).toArray) (by simp [results, Tryz.results153, go_sem, lkE, g0, g1, g2, g3, g4]) rfl ?_;exact ⟨rfl, HW.out⟩
theorem iqX (h : Dt B kb raw im en q p g w0 s w) : Calls Tryz.prog 154 #[.pointer (some ⟨kb, 0, none⟩)] w fun e w' => e = .returned (.agg (lkE (iqD q s).1).toArray) ∧ Dt B kb raw im en q p g w0 (iqD q s).2 w' := by
 obtain ⟨h1, hf1, hb1, hl1⟩ := h.boxed (.cells ([.int .i64 0, .int .i64 0, .int .i64 0, .int .i64 0, .bool false] : List Value).toArray 72);have HF := Lib.hid hf1;have HS : Hid (w0.heap.size ≤ w.heap.size) := h.fr.size;have HB : Hid (∀ W t, Dt B kb raw im en q p g (w.alloc (.cells ([.int .i64 0, .int .i64 0, .int .i64 0, .int .i64 0, .bool false] : List Value).toArray 72)) t W → W.heap[w.heap.size]? = some (.cells ([.int .i64 0, .int .i64 0, .int .i64 0, .int .i64 0, .bool false] : List Value).toArray 72 (0, 0))) := fun W t hW => hW.box hb1 (by decide) (by decide);have H0 : Hid (Dt B kb raw im en q p g (w.alloc (.cells ([.int .i64 0, .int .i64 0, .int .i64 0, .int .i64 0, .bool false] : List Value).toArray 72)) s (w.alloc (.cells ([.int .i64 0, .int .i64 0, .int .i64 0, .int .i64 0, .bool false] : List Value).toArray 72))) := h1;obtain ⟨v0, s1, e0⟩ : ∃ v t, noneD q s = (v, t) := ⟨_, _, rfl⟩
 obtain ⟨v1, s2, e1⟩ : ∃ v t, noneD q s1 = (v, t) := ⟨_, _, rfl⟩
 obtain ⟨v2, s3, e2⟩ : ∃ v t, takeD q 1 s2 = (v, t) := ⟨_, _, rfl⟩
 obtain ⟨v3, s4, e3⟩ : ∃ v t, flagD q s3 = (v, t) := ⟨_, _, rfl⟩
 obtain ⟨s5, e4⟩ : ∃ t, zerosD q 2 s4 = t := ⟨_, rfl⟩
 have K0 : Hid (∀ W w9, Hid (Dt B kb raw im en q p g w9 s W) → Calls Tryz.prog 155 #[.pointer (some ⟨kb, 0, none⟩)] W fun e w' => e = .returned (.int .i64 v0) ∧ Dt B kb raw im en q p g w9 s1 w') := fun W w9 hW => by have h9 := dnoneX hW.out; rw [e0] at h9; exact h9
 have K1 : Hid (∀ W w9, Hid (Dt B kb raw im en q p g w9 s1 W) → Calls Tryz.prog 155 #[.pointer (some ⟨kb, 0, none⟩)] W fun e w' => e = .returned (.int .i64 v1) ∧ Dt B kb raw im en q p g w9 s2 w') := fun W w9 hW => by have h9 := dnoneX hW.out; rw [e1] at h9; exact h9
 have K2 : Hid (∀ W w9, Hid (Dt B kb raw im en q p g w9 s2 W) → Calls Tryz.prog 174 #[.pointer (some ⟨kb, 0, none⟩)] W fun e w' => e = .returned (.int .i64 (v2 : Nat)) ∧ Dt B kb raw im en q p g w9 s3 w') := fun W w9 hW => by have h9 := dbyteX hW.out; rw [e2] at h9; exact h9
 have K3 : Hid (∀ W w9, Hid (Dt B kb raw im en q p g w9 s3 W) → Calls Tryz.prog 175 #[.pointer (some ⟨kb, 0, none⟩)] W fun e w' => e = .returned (.bool v3) ∧ Dt B kb raw im en q p g w9 s4 w') := fun W w9 hW => by have h9 := dflagX hW.out; rw [e3] at h9; exact h9
 have K4 : Hid (∀ W w9, Hid (Dt B kb raw im en q p g w9 s4 W) → Calls Tryz.prog 142 #[.pointer (some ⟨kb, 0, none⟩), .int .i64 2] W fun e w' => e = .returned (.tuple #[]) ∧ Dt B kb raw im en q p g w9 s5 w') := fun W w9 hW => by have h9 := dzerosX hW.out (n := 2) (by decide); rw [e4] at h9; exact h9
 have HE : iqD q s = ((⟨v0, v1, 1, v2, v3⟩ : Lk), s5) := by simp only [iqD, e0, e1, e2, e3, e4]
 clear h h1 hf1 hb1 hl1;rw [HE];clear HE e0 e1 e2 e3 e4;dsimp only;go_enter Tryz.func154, Tryz.ntmps154
 go_wp2_with fail
 refine (K0.out _ _ H0).mono ?_;rintro e w1 ⟨rfl, h9⟩;have H1 : Hid (Dt B kb raw im en q p g (w.alloc (.cells ([.int .i64 0, .int .i64 0, .int .i64 0, .int .i64 0, .bool false] : List Value).toArray 72)) s1 w1) := h9;clear h9 H0 K0;go_wp2_with fail
 refine (K1.out _ _ H1).mono ?_;rintro e w2 ⟨rfl, h9⟩;have H2 : Hid (Dt B kb raw im en q p g (w.alloc (.cells ([.int .i64 0, .int .i64 0, .int .i64 0, .int .i64 0, .bool false] : List Value).toArray 72)) s2 w2) := h9;clear h9 H1 K1;go_wp2_with fail
 refine (K2.out _ _ H2).mono ?_;rintro e w3 ⟨rfl, h9⟩;have H3 : Hid (Dt B kb raw im en q p g (w.alloc (.cells ([.int .i64 0, .int .i64 0, .int .i64 0, .int .i64 0, .bool false] : List Value).toArray 72)) s3 w3) := h9;clear h9 H2 K2;go_wp2_with fail
 refine (K3.out _ _ H3).mono ?_;rintro e w4 ⟨rfl, h9⟩;have H4 : Hid (Dt B kb raw im en q p g (w.alloc (.cells ([.int .i64 0, .int .i64 0, .int .i64 0, .int .i64 0, .bool false] : List Value).toArray 72)) s4 w4) := h9;clear h9 H3 K3;obtain ⟨h2, hf2, hb2, hl2⟩ := H4.out.boxed (.cells ([.int .i64 v0, .int .i64 v1, .int .i64 1, .int .i64 (v2 : Nat), .bool v3] : List Value).toArray 72);have hlt : w.heap.size < w4.heap.size := by
  have h9 := H4.out.fr.size;simp at h9
  omega
 have hr2 := (hl2.block w.heap.size hlt).trans (HB.out _ _ H4.out);have HB2 : Hid (∀ W t, Dt B kb raw im en q p g (w4.alloc (.cells ([.int .i64 v0, .int .i64 v1, .int .i64 1, .int .i64 (v2 : Nat), .bool v3] : List Value).toArray 72)) t W → W.heap[w.heap.size]? = some (.cells ([.int .i64 0, .int .i64 0, .int .i64 0, .int .i64 0, .bool false] : List Value).toArray 72 (0, 0)) ∧ W.heap[w4.heap.size]? = some (.cells ([.int .i64 v0, .int .i64 v1, .int .i64 1, .int .i64 (v2 : Nat), .bool v3] : List Value).toArray 72 (0, 0))) := fun W t hW => ⟨hW.box hr2 (by decide) (by decide), hW.box hb2 (by decide) (by decide)⟩
 have HF2 : Hid (Fd B w0 (w4.alloc (.cells ([.int .i64 v0, .int .i64 v1, .int .i64 1, .int .i64 (v2 : Nat), .bool v3] : List Value).toArray 72))) := HF.out.trans hf2;have nm1 : ¬ w.heap.size = w4.heap.size := by omega
 have nm2 : ¬ w4.heap.size = w.heap.size := by omega
 have HLt := Lib.hid hlt;replace H4 : Hid (Dt B kb raw im en q p g (w4.alloc (.cells ([.int .i64 v0, .int .i64 v1, .int .i64 1, .int .i64 (v2 : Nat), .bool v3] : List Value).toArray 72)) s4 (w4.alloc (.cells ([.int .i64 v0, .int .i64 v1, .int .i64 1, .int .i64 (v2 : Nat), .bool v3] : List Value).toArray 72))) := h2;clear h2 hf2 hb2 hl2 hr2 hlt HB HF;go_wp2_with fail
 refine (K4.out _ _ H4).mono ?_;rintro e w5 ⟨rfl, h9⟩;have H5 : Hid (Dt B kb raw im en q p g (w4.alloc (.cells ([.int .i64 v0, .int .i64 v1, .int .i64 1, .int .i64 (v2 : Nat), .bool v3] : List Value).toArray 72)) s5 w5) := h9;clear h9 H4 K4;obtain ⟨hbx, hby⟩ := HB2.out _ _ H5.out;have d0 := box_cell hbx 0;have f0 := box_free hbx 0;have l0 := box_cell hby 0;have d1 := box_cell hbx 1;have f1 := box_free hbx 1;have l1 := box_cell hby 1;have d2 := box_cell hbx 2;have f2 := box_free hbx 2;have l2 := box_cell hby 2;have d3 := box_cell hbx 3;have f3 := box_free hbx 3;have l3 := box_cell hby 3;have d4 := box_cell hbx 4;have f4 := box_free hbx 4;have l4 := box_cell hby 4;simp only [List.getElem?_cons_zero, List.getElem?_cons_succ] at d0 l0 d1 l1 d2 l2 d3 l3 d4 l4;have HD : Hid (Db 72 w.heap.size B kb raw im en q p g w0 s5 w5) := ⟨H5.out.since HF2.out, ⟨_, hbx⟩, HS.out, by decide, by decide, by decide⟩
 have HZ := Lib.hid hbx;clear hbx hby H5 HB2 HF2 HS HLt;go_wp2_with fail
 generalize hW : World.setCell _ _ _ = W;have hz : W.heap[w.heap.size]? = some (.cells (lkE (⟨v0, v1, 1, v2, v3⟩ : Lk)).toArray 72 (0, 0)) := by rw [← hW]; exact (box_set (box_set (box_set (box_set (box_set HZ.out _ _) _ _) _ _) _ _) _ _)
 have HW : Hid (Dt B kb raw im en q p g w0 s5 W) := by
  refine Db.dt (t := 72) (n := w.heap.size) ?_;rw [← hW];exact (Db.set (Db.set (Db.set (Db.set (Db.set HD.out _ _) _ _) _ _) _ _) _ _)
 clear hW HD HZ d0 f0 l0 d1 f1 l1 d2 f2 l2 d3 f3 l3 d4 f4 l4;simp only [lkE] at hz;have g0 := box_cell hz 0;have g1 := box_cell hz 1;have g2 := box_cell hz 2;have g3 := box_cell hz 3;have g4 := box_cell hz 4;simp only [List.getElem?_cons_zero, List.getElem?_cons_succ] at g0 g1 g2 g3 g4;clear hz;refine bodyPost_ret (v := .agg (lkE (⟨v0, v1, 1, v2, v3⟩ : Lk)).toArray) (by simp [results, Tryz.results154, go_sem, lkE, g0, g1, g2, g3, g4]) rfl ?_;exact ⟨rfl, HW.out⟩
theorem stX (h : Dt B kb raw im en q p g w0 s w) : Calls Tryz.prog 179 #[.pointer (some ⟨kb, 0, none⟩)] w fun e w' => e = .returned (.agg (stE (stD q s).1).toArray) ∧ Dt B kb raw im en q p g w0 (stD q s).2 w' := by
 obtain ⟨h1, hf1, hb1, hl1⟩ := h.boxed (.cells ([.int .i64 0, .int .i64 0] : List Value).toArray 74);have HF := Lib.hid hf1;have HS : Hid (w0.heap.size ≤ w.heap.size) := h.fr.size;have HB : Hid (∀ W t, Dt B kb raw im en q p g (w.alloc (.cells ([.int .i64 0, .int .i64 0] : List Value).toArray 74)) t W → W.heap[w.heap.size]? = some (.cells ([.int .i64 0, .int .i64 0] : List Value).toArray 74 (0, 0))) := fun W t hW => hW.box hb1 (by decide) (by decide);have H0 : Hid (Dt B kb raw im en q p g (w.alloc (.cells ([.int .i64 0, .int .i64 0] : List Value).toArray 74)) s (w.alloc (.cells ([.int .i64 0, .int .i64 0] : List Value).toArray 74))) := h1;obtain ⟨v0, s1, e0⟩ : ∃ v t, noneD q s = (v, t) := ⟨_, _, rfl⟩
 obtain ⟨s2, e1⟩ : ∃ t, zerosD q 2 s1 = t := ⟨_, rfl⟩
 obtain ⟨v2, s3, e2⟩ : ∃ v t, takeD q 4 s2 = (v, t) := ⟨_, _, rfl⟩
 have K0 : Hid (∀ W w9, Hid (Dt B kb raw im en q p g w9 s W) → Calls Tryz.prog 155 #[.pointer (some ⟨kb, 0, none⟩)] W fun e w' => e = .returned (.int .i64 v0) ∧ Dt B kb raw im en q p g w9 s1 w') := fun W w9 hW => by have h9 := dnoneX hW.out; rw [e0] at h9; exact h9
 have K1 : Hid (∀ W w9, Hid (Dt B kb raw im en q p g w9 s1 W) → Calls Tryz.prog 142 #[.pointer (some ⟨kb, 0, none⟩), .int .i64 2] W fun e w' => e = .returned (.tuple #[]) ∧ Dt B kb raw im en q p g w9 s2 w') := fun W w9 hW => by have h9 := dzerosX hW.out (n := 2) (by decide); rw [e1] at h9; exact h9
 have K2 : Hid (∀ W w9, Hid (Dt B kb raw im en q p g w9 s2 W) → Calls Tryz.prog 136 #[.pointer (some ⟨p, 0, none⟩)] W fun e w' => e = .returned (.int .u32 (v2 : Nat)) ∧ Dt B kb raw im en q p g w9 s3 w') := fun W w9 hW => by have h9 := tWordX hW.out; rw [e2] at h9; exact h9
 have b2 : v2 < 4294967296 := by have h9 := take_lt h.small 4 s2; rw [e2] at h9; exact h9
 have HE : stD q s = ((v0, (v2 : Int)), s3) := by simp only [stD, e0, e1, e2]
 clear h h1 hf1 hb1 hl1;rw [HE];clear HE e0 e1 e2;dsimp only;have hwn : IntKind.i64.wrap (v2 : Int) = (v2 : Int) := by rw [IntKind.wrap_i64]; omega
 go_enter Tryz.func179, Tryz.ntmps179
 go_wp2_with fail
 refine (K0.out _ _ H0).mono ?_;rintro e w1 ⟨rfl, h9⟩;have H1 : Hid (Dt B kb raw im en q p g (w.alloc (.cells ([.int .i64 0, .int .i64 0] : List Value).toArray 74)) s1 w1) := h9;clear h9 H0 K0;obtain ⟨h2, hf2, hb2, hl2⟩ := H1.out.boxed (.cells ([.int .i64 v0, .int .i64 0] : List Value).toArray 74);have hlt : w.heap.size < w1.heap.size := by
  have h9 := H1.out.fr.size;simp at h9
  omega
 have hr2 := (hl2.block w.heap.size hlt).trans (HB.out _ _ H1.out);have HB2 : Hid (∀ W t, Dt B kb raw im en q p g (w1.alloc (.cells ([.int .i64 v0, .int .i64 0] : List Value).toArray 74)) t W → W.heap[w.heap.size]? = some (.cells ([.int .i64 0, .int .i64 0] : List Value).toArray 74 (0, 0)) ∧ W.heap[w1.heap.size]? = some (.cells ([.int .i64 v0, .int .i64 0] : List Value).toArray 74 (0, 0))) := fun W t hW => ⟨hW.box hr2 (by decide) (by decide), hW.box hb2 (by decide) (by decide)⟩
 have HF2 : Hid (Fd B w0 (w1.alloc (.cells ([.int .i64 v0, .int .i64 0] : List Value).toArray 74))) := HF.out.trans hf2;have nm1 : ¬ w.heap.size = w1.heap.size := by omega
 have nm2 : ¬ w1.heap.size = w.heap.size := by omega
 have HLt := Lib.hid hlt;replace H1 : Hid (Dt B kb raw im en q p g (w1.alloc (.cells ([.int .i64 v0, .int .i64 0] : List Value).toArray 74)) s1 (w1.alloc (.cells ([.int .i64 v0, .int .i64 0] : List Value).toArray 74))) := h2;clear h2 hf2 hb2 hl2 hr2 hlt HB HF;go_wp2_with fail
 refine (K1.out _ _ H1).mono ?_;rintro e w2 ⟨rfl, h9⟩;have H2 : Hid (Dt B kb raw im en q p g (w1.alloc (.cells ([.int .i64 v0, .int .i64 0] : List Value).toArray 74)) s2 w2) := h9;clear h9 H1 K1;have c59_2 := H2.out.c59;go_wp2_with fail
 refine (K2.out _ _ H2).mono ?_;rintro e w3 ⟨rfl, h9⟩;have H3 : Hid (Dt B kb raw im en q p g (w1.alloc (.cells ([.int .i64 v0, .int .i64 0] : List Value).toArray 74)) s3 w3) := h9;clear h9 H2 K2 c59_2;obtain ⟨hbx, hby⟩ := HB2.out _ _ H3.out;have d0 := box_cell hbx 0;have f0 := box_free hbx 0;have l0 := box_cell hby 0;have d1 := box_cell hbx 1;have f1 := box_free hbx 1;have l1 := box_cell hby 1;have fl := box_free hby 1;simp only [List.getElem?_cons_zero, List.getElem?_cons_succ] at d0 l0 d1 l1;have HY : Hid (Db 74 w1.heap.size B kb raw im en q p g w0 s3 (w3.setCell ⟨w1.heap.size, 1, none⟩ (.int .i64 (v2 : Nat)))) := Db.set ⟨H3.out.since HF2.out, ⟨_, hby⟩, Nat.le_trans HS.out (Nat.le_of_lt HLt.out), by decide, by decide, by decide⟩ _ _;have HZ : Hid ((w3.setCell ⟨w1.heap.size, 1, none⟩ (.int .i64 (v2 : Nat))).heap[w.heap.size]? = some (.cells ([.int .i64 0, .int .i64 0] : List Value).toArray 74 (0, 0))) := ((Keeps.setCell w3 w1.heap.size 1 _).block w.heap.size (Array.getElem?_eq_some_iff.1 hbx).1 nm1).trans hbx;have HD : Hid (Db 74 w.heap.size B kb raw im en q p g w0 s3 (w3.setCell ⟨w1.heap.size, 1, none⟩ (.int .i64 (v2 : Nat)))) := ⟨HY.out.dt, ⟨_, HZ.out⟩, HS.out, by decide, by decide, by decide⟩
 clear hbx hby H3 HB2 HF2 HS HLt;go_wp2_with fail
 generalize hW : World.setCell _ _ _ = W;have hz : W.heap[w.heap.size]? = some (.cells (stE (v0, (v2 : Int))).toArray 74 (0, 0)) := by rw [← hW]; exact (box_set (box_set HZ.out _ _) _ _)
 have HW : Hid (Dt B kb raw im en q p g w0 s3 W) := by
  refine Db.dt (t := 74) (n := w.heap.size) ?_;rw [← hW];exact (Db.set (Db.set HD.out _ _) _ _)
 clear hW HD HZ d0 f0 l0 d1 f1 l1;simp only [stE] at hz;have g0 := box_cell hz 0;have g1 := box_cell hz 1;simp only [List.getElem?_cons_zero, List.getElem?_cons_succ] at g0 g1;clear hz;refine bodyPost_ret (v := .agg (stE (v0, (v2 : Int))).toArray) (by simp [results, Tryz.results179, go_sem, stE, g0, g1]) rfl ?_;exact ⟨rfl, HW.out⟩
end
end Go.Proofs.YtmfkggngjeolcaaGreatDoor
