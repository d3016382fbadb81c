/- WalkNames: the numbers of the small machine. Own work. -/
import Derived.Test.YtehedllcdpjebaaWbAwake
import Derived.Test.YtehedllcdpjebaaLvLev
namespace Go.Proofs.Ytehedllcdpjebaa
open Go.RowKit Go.Maps Go.Proofs.Ytehedllcdpjebaa.Sp Wk Lv
/-- the bytes of the small machine, a byte stored -/
def MG : Nat → Nat := putAt MF 24575 [255]
theorem look_FF {a l : Nat} (v : Nat) (M : Nat → Nat) (h1 : 4096 ≤ a) (h2 : a + 8 ≤ 69632) (hv : Pl.num 8 (rdTo M a 8 8) = v) : lookF (rsF ++ []) M a (l : Int) = entB v l := by
  unfold lookF
  rw [if_pos (fun i hi => on_F (by omega) (by omega)), hv]
theorem look_G0 : lookF (rsF ++ []) MG 4096 (0 : Nat) = ((8192, true, false, false, false), 0) := by
  rw [look_FF 8193 MG (by omega) (by omega) (by decide)]
  decide
theorem look_G1 : lookF (rsF ++ []) MG 8192 (1 : Nat) = ((12288, true, false, false, false), 0) := by
  rw [look_FF 12289 MG (by omega) (by omega) (by decide)]
  decide
theorem look_G2 : lookF (rsF ++ []) MG 12312 (2 : Nat) = ((20480, false, false, true, false), 0) := by
  rw [look_FF 20483 MG (by omega) (by omega) (by decide)]
  decide
theorem look_Gz {a : Nat} (ha : a = 12288 ∨ a = 12296 ∨ a = 12304) : lookF (rsF ++ []) MG a (2 : Nat) = (no, 41) := by
  rcases ha with rfl | rfl | rfl
  · rw [look_FF 0 MG (by omega) (by omega) (by decide)]; decide
  · rw [look_FF 0 MG (by omega) (by omega) (by decide)]; decide
  · rw [look_FF 0 MG (by omega) (by omega) (by decide)]; decide
theorem look_Fz : lookF (rsF ++ []) MF 12320 (2 : Nat) = (no, 41) := by
  rw [look_FF 0 MF (by omega) (by omega) (by decide)]; decide
/-- the leaf of an address of the page -/
theorem leaf_M {M : Nat → Nat} (l0 : lookF (rsF ++ []) M 4096 (0 : Nat) = ((8192, true, false, false, false), 0)) (l1 : lookF (rsF ++ []) M 8192 (1 : Nat) = ((12288, true, false, false, false), 0)) {v a : Nat} {r : Ent × Int} (l2 : lookF (rsF ++ []) M a (2 : Nat) = r) (hr : r.2 ≠ 0 ∨ r.1.2.1 = false) (hv : v < 2097152) (ha : a = 12288 + 8 * (v / 4096)) : leafF (rsF ++ []) M v 3 0 4096 = r := by
  have e0 : 4096 + 8 * (v / (4096 * pgs 0) % 512) = 4096 := by
    have : pgs 0 = 262144 := by decide
    rw [this]; omega
  have e1 : 8192 + 8 * (v / (4096 * pgs 1) % 512) = 8192 := by
    have : pgs 1 = 512 := by decide
    rw [this]; omega
  have e2 : 12288 + 8 * (v / (4096 * pgs 2) % 512) = a := by
    have : pgs 2 = 1 := by decide
    rw [this, ha]; omega
  rw [leafF, e0, l0, if_neg (by simp), leafF]
  rw [show (0 : Nat) + 1 = 1 from rfl, e1, l1, if_neg (by simp), leafF]
  rw [show (1 : Nat) + 1 = 2 from rfl, e2, l2, if_pos hr]
theorem page_F {v : Nat} (h1 : 12288 ≤ v) (h2 : v < 16384) {acc : Int} (ha : acc = 1 ∨ acc = 2) : adrF (rsF ++ []) MF 4096 v acc = (20480 + v % 4096, 0) := by
  unfold adrF
  rw [if_neg (by omega), if_neg (by omega), if_neg (by omega), leaf_F h1 h2]
  rcases ha with rfl | rfl
  · simp [addrB]
  · simp [addrB]
theorem gap_F : adrF (rsF ++ []) MF 4096 16384 1 = (0, 41) := by
  unfold adrF
  rw [if_neg (by omega), if_neg (by omega), if_neg (by omega), leaf_M look_F0 look_F1 look_Fz (.inl (by decide)) (by omega) (by omega)]
  simp [addrB]
theorem page_G {v : Nat} (h1 : 12288 ≤ v) (h2 : v < 16384) : adrF (rsF ++ []) MG 4096 v 1 = (20480 + v % 4096, 0) := by
  unfold adrF
  rw [if_neg (by omega), if_neg (by omega), if_neg (by omega), leaf_M look_G0 look_G1 look_G2 (.inr rfl) (by omega) (by omega)]
  simp [addrB]
theorem take_h : takeV (rsF ++ []) MF 4096 16382 1 4 = (0, 41, 16384) := by
  have hv : ∀ i, i < 4 → vv 16382 i = 16382 + i := fun i hi => by unfold vv; omega
  have ha : ∀ i, i < 2 → ad (rsF ++ []) MF 4096 16382 1 i = (20480 + (16382 + i) % 4096, 0) := fun i hi => by
    unfold ad
    rw [hv i (by omega), page_F (by omega) (by omega) (.inl rfl)]
  have h2 : ad (rsF ++ []) MF 4096 16382 1 2 = (0, 41) := by
    unfold ad
    rw [hv 2 (by omega), gap_F]
  rw [takeV, reach_tr (i := 2) (fun j hj => by rw [ha j hj]) (by rw [h2]; decide) (by decide), h2, hv 2 (by omega)]
theorem ad_s : ad (rsF ++ []) MF 4096 16383 2 0 = (24575, 0) := by
  unfold ad
  rw [show vv 16383 0 = 16383 from by decide, page_F (by omega) (by omega) (.inr rfl)]
theorem reach_s : reachF (rsF ++ []) MF 4096 16383 2 1 = none := by
  refine reach_ok (fun j hj => ?_) (fun j hj => ?_)
  · obtain rfl : j = 0 := by omega
    rw [ad_s]
  · obtain rfl : j = 0 := by omega
    rw [ad_s]
    exact on_F (by omega) (by omega)
theorem st_s : stM (rsF ++ []) MF 4096 16383 511 1 = MG := by
  rw [stM, stM, ad_s]
  rfl
theorem take_n : takeV (rsF ++ []) MG 4096 16380 1 4 = (4278190080, 0, 0) := by
  have hv : ∀ i, i < 4 → vv 16380 i = 16380 + i := fun i hi => by unfold vv; omega
  have ha : ∀ i, i < 4 → ad (rsF ++ []) MG 4096 16380 1 i = (24572 + i, 0) := fun i hi => by
    unfold ad
    rw [hv i hi, page_G (by omega) (by omega)]
    congr 1
    omega
  rw [takeV, reach_ok (fun j hj => by rw [ha j hj]) (fun j hj => by rw [ha j hj]; exact on_F (by simp; omega) (by simp; omega))]
  have hu : upB (rsF ++ []) MG 4096 16380 1 4 = [0, 0, 0, 255, 0, 0, 0, 0] := by
    unfold upB
    rw [show List.range 8 = [0, 1, 2, 3, 4, 5, 6, 7] from rfl]
    simp only [List.map_cons, List.map_nil]
    rw [ha 0 (by omega), ha 1 (by omega), ha 2 (by omega), ha 3 (by omega)]
    decide
  rw [takeN, hu]
  rfl
end Go.Proofs.Ytehedllcdpjebaa
