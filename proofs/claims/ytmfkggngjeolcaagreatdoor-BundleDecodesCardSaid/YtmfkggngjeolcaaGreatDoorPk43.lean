import Derived.Test.YtmfkggngjeolcaaGreatDoorPk42
import Derived.Test.YtmfkggngjeolcaaGreatDoorPk06
import Derived.Test.YtmfkggngjeolcaaGreatDoorPk40
import Derived.Test.YtmfkggngjeolcaaGreatDoorCards
import Derived.Test.YtmfkggngjeolcaaGreatDoorPk00
import Derived.WalkKit
import Derived.ProofKit
import Derived.OpenShut
import Derived.ShutString
import Derived.ChangeOld
import Derived.Below
import Derived.Deep.DeepHandedRow
set_option linter.unusedSimpArgs false
set_option linter.unusedVariables false
set_option maxHeartbeats 3000000
set_option maxRecDepth 100000
namespace Go.Proofs.YtmfkggngjeolcaaGreatDoor
open Go.RowKit
theorem within_any (n hi : Int) (w : World) (h0 : 0 ≤ hi) (h1 : hi ≤ 1152921504606846976) :
  Calls Tryz.prog 14 #[.int .i64 n, .int .i64 0, .int .i64 hi] w fun e w' => ∃ r : Nat, e = .returned (.int .i64 (r : Int)) ∧ (r : Int) ≤ hi ∧ w' = w := by
 by_cases hn : 0 ≤ n
 ·have b1 : 0 ≤ n % (hi + 1) := Int.emod_nonneg n (by omega);have b2 : n % (hi + 1) < hi + 1 := Int.emod_lt_of_pos n (by omega);go_enter Tryz.func14, Tryz.ntmps14
  go_wp2
  go_ret
  exact ⟨(n % (hi + 1)).toNat, congrArg (fun z => Ending.returned (.int .i64 z)) (by simp; omega), by omega, rfl⟩
 ·have b1 : -(hi + 1) < n.tmod (hi + 1) := Int.lt_tmod_of_pos n (by omega);have b2 : n.tmod (hi + 1) < hi + 1 := Int.tmod_lt_of_pos n (by omega);generalize hm : n.tmod (hi + 1) = m at *
  by_cases hm0 : m < 0
  ·go_enter Tryz.func14, Tryz.ntmps14
   go_wp2
   go_ret
   exact ⟨(m + hi + 1).toNat, congrArg (fun z => Ending.returned (.int .i64 z)) (by simp; omega), by omega, rfl⟩
  ·go_enter Tryz.func14, Tryz.ntmps14
   go_wp2
   go_ret
   exact ⟨m.toNat, congrArg (fun z => Ending.returned (.int .i64 z)) (by simp; omega), by omega, rfl⟩
end Go.Proofs.YtmfkggngjeolcaaGreatDoor
namespace Go.Proofs.YtmfkggngjeolcaaGreatDoor
open Go.RowKit Bn Dd
open Dc
theorem byte_xorD (z t : Nat) (hz : z < 256) (ht : t < 8) : bits .xor .u8 (z : Int) (2 ^ t % 256) = ((z ^^^ 2 ^ t : Nat) : Int) := by
 have h2 : 2 ^ t < 256 := Nat.pow_lt_pow_right (by decide) ht;have h := u8_xor_nat z (2 ^ t) hz h2;rw [← h]
 congr 1
 rw [Int.natCast_pow];have : ((2 ^ t : Nat) : Int) < 256 := by omega
 rw [Int.natCast_pow] at this;exact Int.emod_eq_of_lt (by exact Int.pow_nonneg (by decide)) this
theorem beyond1_no (a : Nat) (g cap : Nat) (w : World) (h : a ≤ 2147483647) (h0 : w.cell? ⟨g, 0, none⟩ = some (.int .i64 a)) :
  Calls Tryz.prog 10 #[.slice (some ⟨g, 0, none⟩) 1 cap] w fun e w' => e = .returned (.bool false) ∧ w' = w := by
 have HC0 : Hid (w.cell? ⟨g, 0, none⟩ = some (.int .i64 a)) := h0;clear h0;go_enter Tryz.func10, Tryz.ntmps10
 go_wp2
 go_loop [3, 4] (fun l i => (i = .int .i64 0 ∧ l = .int .i64 2147483647) ∨ i = .int .i64 1) (fun _ i => 1 - (intOf i).toNat)
 case atStart => exact .inl ⟨rfl, rfl⟩
 case round =>
  rcases hrel with ⟨rfl, rfl⟩ | rfl
  ·have h0 := HC0.out;go_wp2
   go_round
   case rel => exact .inr rfl
   case measure => simp [intOf]
  ·go_wp2
   go_ret
   exact ⟨rfl, rfl⟩
theorem beyond1_yes (a : Nat) (g cap : Nat) (w : World) (h : 2147483647 < a) (h0 : w.cell? ⟨g, 0, none⟩ = some (.int .i64 a)) :
  Calls Tryz.prog 10 #[.slice (some ⟨g, 0, none⟩) 1 cap] w fun e w' => e = .returned (.bool true) ∧ w' = w := by
 have HC0 : Hid (w.cell? ⟨g, 0, none⟩ = some (.int .i64 a)) := h0;clear h0;go_enter Tryz.func10, Tryz.ntmps10
 go_wp2
 go_loop [3, 4] (fun l i => i = .int .i64 0 ∧ l = .int .i64 2147483647) (fun _ i => 1 - (intOf i).toNat)
 case atStart => exact ⟨rfl, rfl⟩
 case round =>
  obtain ⟨rfl, rfl⟩ := hrel;have h0 := HC0.out;go_wp2
  go_ret
  exact ⟨rfl, rfl⟩
theorem decRow {w : World} {g n : Nat} {zs : List Nat} (ht : Tab w) (hr : Row w g zs) (hz : ∀ z ∈ zs, z < 256) (hl : zs.length = n + 80) (hn : n ≤ 2147483647) : Calls Tryz.prog 12 #[.slice (some ⟨g, 0, none⟩) (n + 80) (n + 80), .int .i64 (n : Int)] w (LQ w) := by
 have h9 := row_sl hr hz (by unfold maxLen; omega);rw [hl] at h9;exact decodedX ht (hl ▸ (row_sl hr hz (by unfold maxLen; omega))) (by omega) (by omega)
theorem bundleDecodes_walk {w : World} {v : Value} {bs : List Nat} {at_ bit : Int} (ht : Tab w) (hs : Sl w v bs) : Calls Tryz.prog 4 #[v, .int .i64 at_, .int .i64 bit] w (LQ w) := by
 obtain ⟨ao, cap, hv, hlc, hcm, hsm, _⟩ := id hs;subst hv;have HSm := Lib.hid hsm;have HS := Lib.hid hs;have HT := Lib.hid ht;obtain ⟨n, hn⟩ : ∃ n, bs.length = n := ⟨_, rfl⟩
 have HN := Lib.hid hn;rw [hn] at hlc HS ⊢;unfold maxLen at hcm;clear hs ht hsm hn
 by_cases h31 : 2147483647 < n
 ·go_enter Tryz.func4, Tryz.ntmps4
  go_wp2_with fail
  refine (beyond1_yes n _ _ _ h31 (by simp)).mono ?_;rintro e w1 ⟨rfl, rfl⟩;go_wp2_with fail
  go_ret
  exact ⟨rfl, (Below.refl _ _).alloc (Nat.le_refl _) _⟩
 ·have hn31 : n ≤ 2147483647 := by omega
  go_enter Tryz.func4, Tryz.ntmps4
  go_wp2_with fail
  refine (beyond1_no n _ _ _ hn31 (by simp)).mono ?_;rintro e w1 ⟨rfl, hw1⟩;have HB1 : Hid (Below w.heap.size w w1) := by rw [hw1]; exact (Below.refl _ _).alloc (Nat.le_refl _) _
  clear hw1;go_wp2_with fail
  refine smallX.mono ?_;rintro e w2 ⟨rfl, hs2, _, hb2⟩;have HB2 : Hid (Below w.heap.size w w2) := HB1.out.trans (hb2.mono HB1.out.size);have HE := Lib.hid (encodeX hs2.im (HT.out.below HB2.out) (Nat.le_trans (small_sz _) (by decide)));clear hs2 hb2 HB1;go_wp2_with fail
  refine HE.out.mono ?_;rintro e w3 ⟨he, hb3⟩;rcases he with ⟨hx, _⟩ | ⟨_, g1, rfl, _, hr1⟩
  ·exact absurd (small_size true) hx
  have HB3 : Hid (Below w.heap.size w w3) := HB2.out.trans (hb3.mono HB2.out.size);have hzE : ∀ z ∈ encF (smallI true), z < 256 := sm_enc _
  have hlE : (encF (smallI true)).length ≤ 4194304 := by
   obtain ⟨_, h2, h3, h4, _⟩ := enc_parts (small_size true);omega
  clear hb3 HE HB2;generalize encF (smallI true) = E at *;have hRo := roomy_any (m := 165) (row_sl hr1 hzE (by unfold maxLen; omega)) (by omega);have HzE := Lib.hid hzE;obtain ⟨ne, hne⟩ : ∃ k, E.length = k := ⟨_, rfl⟩
  have HNe := Lib.hid hne;rw [hne] at hRo hlE ⊢;have HRo := Lib.hid hRo;clear hRo hzE hne hr1;go_wp2_with fail
  refine HRo.out.mono ?_;rintro e w4 ⟨rfl, hr4, hb4⟩;have HB4 : Hid (Below w.heap.size w w4) := HB3.out.trans (hb4.mono HB3.out.size);have HD4 := Lib.hid (decRow (n := ne) (HT.out.below HB4.out) hr4 (roomed_small HzE.out (by decide)) (by rw [roomed_length, HNe.out]) (by omega));clear hr4 hb4 HRo HB3;go_wp2_with fail
  refine HD4.out.mono ?_;rintro e w5 ⟨rfl, hb5⟩;have HB5 : Hid (Below w.heap.size w w5) := HB4.out.trans (hb5.mono HB4.out.size);have hRb := roomy_any (m := 165) (HN.out ▸ (HS.out.below HB5.out) : Sl w5 (.slice ao n cap) bs) (by rw [HN.out]; exact hn31);rw [HN.out] at hRb;have HRb := Lib.hid hRb;clear hb5 hRb HD4 HB4 HzE HNe;go_wp2_with fail
  refine HRb.out.mono ?_;rintro e w6 ⟨rfl, hr6, hb6⟩;have HB6 : Hid (Below w.heap.size w w6) := HB5.out.trans (hb6.mono HB5.out.size);have HSmR : Hid (∀ z ∈ roomed bs 165, z < 256) := roomed_small HSm.out (by decide);have HLR : Hid ((roomed bs 165).length = n + 80) := by show _ = _; rw [roomed_length, HN.out]
  have HGe : Hid (w.heap.size ≤ w5.heap.size) := HB5.out.size;have HD6 := Lib.hid (decRow (n := n) (HT.out.below HB6.out) hr6 HSmR.out HLR.out hn31);have HR6 := Lib.hid hr6;have hg6 : w5.heap.size < w6.heap.size := (Array.getElem?_eq_some_iff.1 hr6).1;have HG6 : Hid (w5.heap.size < w6.heap.size) := hg6;clear hr6 hb6 HRb HB5 hg6;generalize w5.heap.size = g at *;go_wp2_with fail
  refine HD6.out.mono ?_;rintro e w7 ⟨rfl, hb7⟩;have HB7 : Hid (Below w.heap.size w w7) := HB6.out.trans (hb7.mono HB6.out.size);have HR7 : Hid (Row w7 g (roomed bs 165)) := (hb7.block g HG6.out).trans HR6.out;clear hb7 HD6 HR6 HB6 HG6
  by_cases hn0 : n = 0
  ·subst hn0;go_wp2_with fail
   go_ret
   exact ⟨rfl, HB7.out⟩
  ·have d0 : ((n : Int) == 0) = false := by simpa using hn0
   have hw1 : IntKind.i64.wrap ((n : Int) - 1) = (n : Int) - 1 := by rw [IntKind.wrap_i64]; omega
   have HWi := Lib.hid (within_any at_ ((n : Int) - 1) w7 (by omega) (by omega));have HWb : Hid (∀ W, Calls Tryz.prog 14 #[.int .i64 bit, .int .i64 0, .int .i64 7] W fun e w' => ∃ v, e = .returned v ∧ ∃ t : Nat, v = .int .i64 (t : Int) ∧ t ≤ 7 ∧ w' = W) := fun W => (within_any bit 7 W (by omega) (by omega)).mono (fun e w' ⟨r, e1, e2, e3⟩ => ⟨_, e1, r, rfl, by omega, e3⟩);have HEn := Lib.hid (enters_of Tryz.func14 (by kernel_rfl) rfl);go_wp2_with fail
   refine HWi.out.mono ?_;rintro e w8 ⟨x, rfl, hx, hw8⟩;subst hw8;clear HWi;have hxn : x < n := by omega
   have hxl : x < (roomed bs 165).length := by rw [HLR.out]; omega
   obtain ⟨z, hzv⟩ : ∃ z, (roomed bs 165).getD x 0 = z := ⟨_, rfl⟩
   have hz256 : z < 256 := by rw [← hzv]; exact Pl.mem_getD HSmR.out
   have hc : w8.cell? ⟨g, x, none⟩ = some (.int .u8 (z : Int)) := by rw [← hzv]; exact HR7.out.cell x hxl
   have hcd : w8.drew.cell? ⟨g, x, none⟩ = some (.int .u8 (z : Int)) := hc;have hf : w8.frozen? ⟨g, x, none⟩ = false := HR7.out.thawed x;have hfd : w8.drew.frozen? ⟨g, x, none⟩ = false := hf;have HTu : Hid (∀ t : Nat, t ≤ 7 → ∃ u : Nat, u < 256 ∧ bits .xor .u8 (z : Int) (IntKind.u8.wrap (2 ^ t)) = (u : Int)) := fun t h7 => ⟨z ^^^ 2 ^ t, Nat.xor_lt_two_pow (n := 8) hz256 (Nat.pow_lt_pow_right (by decide) (by omega)), by rw [IntKind.wrap_u8]; exact byte_xorD z t hz256 (by omega)⟩
   have hxc : x < n + 80 := by omega
   have hxi : (x : Int) < (n : Int) + 80 := by omega
   clear hzv;have hdr : ∀ W : World, Below w.heap.size W W.drew := fun W => ⟨rfl, rfl, rfl, Nat.le_refl _, fun _ _ => rfl⟩
   go_upto_region 13 with fail
   go_cut [] from 45 to 56 (fun wx => ∃ u : Nat, u < 256 ∧ Hid (Row wx g ((roomed bs 165).set x u)) ∧ Hid (Below w.heap.size w wx))
   case first =>
    go_region_law (first
     | (refine step_callQ rfl 14 #[.tmp 51, .const (.int .i64 0), .const (.int .i64 7)] #[3, 3, 3] rfl HEn.out #[.int .i64 bit, .int .i64 0, .int .i64 7] (by first | (simp [Act.eval]; done) | simp [Act.eval, Act.put]) (HWb.out _) ?_; rintro u9 w9 ⟨t, rfl, ht7, hw9⟩; have hw9 := hw9.symm; subst hw9; have hwt : IntKind.u64.wrap (t : Int) = (t : Int) := by rw [IntKind.wrap_u64]; omega))
    all_goals
     go_wp2_with fail
     go_meet
     obtain ⟨u, hu, he⟩ := HTu.out t ht7;have hrs : Row (w8.setCell ⟨g, x, none⟩ (.int .u8 (bits .xor .u8 (z : Int) (IntKind.u8.wrap (2 ^ t))))) g ((roomed bs 165).set x u) := by rw [he]; exact HR7.out.set x u
     have hbs : Below w.heap.size w (w8.setCell ⟨g, x, none⟩ (.int .u8 (bits .xor .u8 (z : Int) (IntKind.u8.wrap (2 ^ t))))) := HB7.out.setCell HGe.out _;clear he;generalize w8.setCell ⟨g, x, none⟩ (.int .u8 (bits .xor .u8 (z : Int) (IntKind.u8.wrap (2 ^ t)))) = Wq at *;exact ⟨u, hu, hrs, hbs.trans (hdr Wq)⟩
   case rest =>
    obtain ⟨u, hu, HRc, HBc⟩ := hcut
    have HSmU : Hid (∀ y ∈ (roomed bs 165).set x u, y < 256) := fun y hy => by
     rcases List.mem_or_eq_of_mem_set hy with h | h
     ·exact HSmR.out y h
     ·rw [h]; exact hu
    have HLU : Hid (((roomed bs 165).set x u).length = n + 80) := by show _ = _; rw [List.length_set]; exact HLR.out
    have HD9 := Lib.hid (decRow (n := n) (HT.out.below HBc.out) HRc.out HSmU.out HLU.out hn31);have HGc : Hid (g < wc.heap.size) := (Array.getElem?_eq_some_iff.1 HRc.out).1;clear hc hcd hf hfd HTu HWb HEn HB7 HR7;go_wp2_with fail
    refine HD9.out.mono ?_;rintro e w10 ⟨rfl, hb10⟩;have HB10 : Hid (Below w.heap.size w w10) := HBc.out.trans (hb10.mono HBc.out.size);have HR10 : Hid (Row w10 g ((roomed bs 165).set x u)) := (hb10.block g HGc.out).trans HRc.out;clear hb10 HD9 HRc HBc HGc;obtain ⟨b0, o0, c0, e0, _, _, hsmb, hcb⟩ := (HS.out.below HB10.out : Sl w10 (.slice ao n cap) bs).pos (by rw [HN.out]; omega);simp only [Value.slice.injEq] at e0;obtain ⟨rfl, hnn, rfl⟩ := e0;clear hnn;have hc := hcb x (by rw [HN.out]; exact hxn);obtain ⟨y, hy⟩ : ∃ y, bs.getD x 0 = y := ⟨_, rfl⟩
    have hy256 : y < 256 := by rw [← hy]; exact Pl.mem_getD HSm.out
    rw [hy] at hc;obtain ⟨q2, hc2⟩ : ∃ q2 : Nat, w10.cell? ⟨g, x, none⟩ = some (.int .u8 (q2 : Nat)) := ⟨_, HR10.out.cell x (by rw [HLU.out]; omega)⟩
    have hf2 : w10.frozen? ⟨g, x, none⟩ = false := HR10.out.thawed x;have HR11 : Hid (Row (w10.setCell ⟨g, x, none⟩ (.int .u8 (y : Nat))) g (((roomed bs 165).set x u).set x y)) := HR10.out.set x y;have HB11 : Hid (Below w.heap.size w (w10.setCell ⟨g, x, none⟩ (.int .u8 (y : Nat)))) := HB10.out.setCell HGe.out _
    have HSmV : Hid (∀ q ∈ ((roomed bs 165).set x u).set x y, q < 256) := fun q hq => by
     rcases List.mem_or_eq_of_mem_set hq with h | h
     ·exact HSmU.out q h
     ·rw [h]; exact hy256
    have HD11 := Lib.hid (decRow (n := n) (HT.out.below HB11.out) HR11.out HSmV.out (by rw [List.length_set]; exact HLU.out) hn31);clear hcb hsmb HR10 HB10 HR11 HSmV HSmU hy;go_wp2_with fail
    refine HD11.out.mono ?_;rintro e w12 ⟨rfl, hb12⟩;have HB12 : Hid (Below w.heap.size w w12) := HB11.out.trans (hb12.mono HB11.out.size);clear hb12 HD11 HB11;go_wp2_with fail
    go_ret
    exact ⟨rfl, HB12.out⟩
end Go.Proofs.YtmfkggngjeolcaaGreatDoor
namespace Go.Proofs.YtmfkggngjeolcaaGreatDoor
open Go.ChangeShapes Go.WideShapes Go.ChangeAt Go.RowKit
def IsRow (k : IntKind) (w : World) (a : Option Addr) (len cap : Nat) (zs : List Int) : Prop :=
 (a = none ∧ len = 0 ∧ cap = 0 ∧ zs = []) ∨
 ∃ x, a = some x ∧ len ≤ cap ∧ cap ≤ maxLen ∧ zs.length = cap ∧ (∀ i, i < zs.length → w.cell? (x.add i) = some (.int k (zs.getD i 0))) ∧ ∀ n ∈ zs, (Lit.int k n).wf = true
theorem sl_isrow {w : World} {a : Option Addr} {len cap : Nat} {zs : List Int} (h : IsRow .u8 w a len cap zs) : ∃ p : List Nat, p.length = len ∧ Sl w (.slice a len cap) p := by
 rcases h with ⟨rfl, rfl, rfl, _⟩ | ⟨x, rfl, hl, hm, hz, hc, hw⟩
 ·exact ⟨[], rfl, none, 0, rfl, by simp, by simp [maxLen], by simp, fun _ => rfl, fun i hi => by simp at hi⟩
 ·refine ⟨(zs.take len).map Int.toNat, by simp; omega, some x, cap, ?_, by simp; omega, hm, ?_, by simp, ?_⟩
  ·congr 1
   simp; omega
  ·intro z hz';obtain ⟨y, hy, rfl⟩ := List.mem_map.1 hz';have := bounds_u8 (hw y (List.mem_of_mem_take hy));omega
  ·intro i hi;have hi' : i < len := by simp at hi; omega
   obtain ⟨b, o, rfl, hc'⟩ := ints_at hc (show 0 < zs.length by omega);refine ⟨b, o, rfl, ?_⟩;rw [hc' i (by omega)];have hb := bounds_u8 (hw zs[i] (List.getElem_mem (by omega)));have e1 : zs.getD i 0 = zs[i] := by rw [List.getD_eq_getElem?_getD, List.getElem?_eq_getElem (by omega)]; rfl
   have e2 : ((zs.take len).map Int.toNat).getD i 0 = zs[i].toNat := by
    rw [List.getD_eq_getElem?_getD, List.getElem?_map, List.getElem?_take, if_pos hi', List.getElem?_eq_getElem (by omega)]
    rfl
   rw [e1, e2]
   congr 2
   omega
end Go.Proofs.YtmfkggngjeolcaaGreatDoor
