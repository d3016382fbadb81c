/- bulkheadlaw4.few, awake. Own work. -/
import Derived.Test.YtehedllcdpjebaaWkStore
import Derived.Test.YtehedllcdpjebaaRgNewA
import Derived.Test.YtehedllcdpjebaaSpWithU64
import Derived.Laws.StructEq
namespace Go.Proofs.Ytehedllcdpjebaa
open Go.RowKit Go.Maps Go.Proofs.Ytehedllcdpjebaa.Sp Wk
def rsF : List Sp := [(4096, 65536)]
/-- the bytes of the small machine -/
def MF : Nat → Nat := putAt (putAt (putAt (fun _ => 0) 4096 ((Pl.le 8 8193).take 8)) 8192 ((Pl.le 8 12289).take 8)) 12312 ((Pl.le 8 20483).take 8)
theorem on_F {p : Int} (h1 : 4096 ≤ p) (h2 : p < 69632) : On (rsF ++ []) p := ⟨(4096, 65536), List.mem_cons_self .., h1, by show p < 4096 + 65536; omega⟩
theorem look_F0 : lookF (rsF ++ []) MF 4096 0 = ((8192, true, false, false, false), 0) := by
  unfold lookF
  rw [if_pos (fun i hi => on_F (by omega) (by omega)), show Pl.num 8 (rdTo MF 4096 8 8) = 8193 by decide]
  decide
theorem look_F1 : lookF (rsF ++ []) MF 8192 1 = ((12288, true, false, false, false), 0) := by
  unfold lookF
  rw [if_pos (fun i hi => on_F (by omega) (by omega)), show Pl.num 8 (rdTo MF 8192 8 8) = 12289 by decide]
  decide
theorem look_F2 : lookF (rsF ++ []) MF 12312 2 = ((20480, false, false, true, false), 0) := by
  unfold lookF
  rw [if_pos (fun i hi => on_F (by omega) (by omega)), show Pl.num 8 (rdTo MF 12312 8 8) = 20483 by decide]
  decide
theorem leaf_F {v : Nat} (h1 : 12288 ≤ v) (h2 : v < 16384) : leafF (rsF ++ []) MF v 3 0 4096 = ((20480, false, false, true, false), 0) := by
  have e0 : 4096 + 8 * (v / (4096 * pgs 0) % 512) = 4096 := by
    have : pgs 0 = 262144 := by decide
    rw [this]; omega
  have e1 : 8192 + 8 * (v / (4096 * pgs 1) % 512) = 8192 := by
    have : pgs 1 = 512 := by decide
    rw [this]; omega
  have e2 : 12288 + 8 * (v / (4096 * pgs 2) % 512) = 12312 := by
    have : pgs 2 = 1 := by decide
    rw [this]; omega
  rw [leafF, e0]
  have l0 := look_F0
  have l1 := look_F1
  have l2 := look_F2
  rw [show ((0 : Nat) : Int) = 0 from rfl, l0, if_neg (by simp), leafF]
  rw [show ((0 + 1 : Nat) : Int) = 1 from rfl]
  rw [show (0 : Nat) + 1 = 1 from rfl, e1, l1, if_neg (by simp), leafF]
  rw [show ((1 + 1 : Nat) : Int) = 2 from rfl]
  rw [show (1 : Nat) + 1 = 2 from rfl, e2, l2, if_pos (by simp)]
theorem adr_F {v : Nat} {acc : Int} (ha : acc = 1 ∨ acc = 3) (h1 : 12288 ≤ v) (h2 : v < 16384) : adrF (rsF ++ []) MF 4096 v acc = if acc = 1 then (20480 + v % 4096, 0) else (0, 44) := by
  unfold adrF
  rw [if_neg (by omega), if_neg (by omega), if_neg (by omega), leaf_F h1 h2]
  rcases ha with rfl | rfl
  · simp [addrB]
  · simp [addrB]
theorem take_F1 : (takeV (rsF ++ []) MF 4096 12288 1 8).2.1 = 0 := by
  have hv : ∀ i, i < 8 → vv 12288 i = 12288 + i := fun i hi => by unfold vv; omega
  have ha : ∀ i, i < 8 → ad (rsF ++ []) MF 4096 12288 1 i = (20480 + (12288 + i) % 4096, 0) := fun i hi => by
    unfold ad
    rw [hv i hi, adr_F (.inl rfl) (by omega) (by omega)]
    rfl
  rw [takeV, reach_ok (fun j hj => by rw [ha j hj]) (fun j hj => by rw [ha j hj]; exact on_F (by omega) (by omega))]
theorem take_F3 : takeV (rsF ++ []) MF 4096 12288 3 8 = (0, 44, 12288) := by
  have ha : ad (rsF ++ []) MF 4096 12288 3 0 = (0, 44) := by
    unfold ad
    rw [show vv 12288 0 = 12288 by decide, adr_F (.inr rfl) (by omega) (by omega)]
    rfl
  rw [takeV, reach_tr (i := 0) (fun j hj => absurd hj (Nat.not_lt_zero _)) (by rw [ha]; decide) (by decide), ha]
  rfl
theorem fits_F : Fits 18446744073709551615 rsF := fun x hx => by
  rw [List.mem_singleton.1 hx]
  decide
theorem refW_F : refW rsF [] = 0 := by decide
set_option maxRecDepth 100000 in
set_option maxHeartbeats 4000000 in
theorem few_more (w : World) : Calls Try.prog 5 #[] w fun e w' => ∃ m B V T, e = .returned (.pointer (some ⟨m, 0, none⟩)) ∧ Hid (Mx w' m B V T MF rsF [] 3) ∧ Hid (Below w.heap.size w w') ∧ Hid (∀ j, Mine m B V T j → w.heap.size ≤ j) := by
  have HNw : Hid (∀ W g, U64.SV W (.slice (some ⟨g, 0, none⟩) 1 1) rsF → Calls Try.prog 12 #[.agg #[.slice (some ⟨g, 0, none⟩) 1 1, .slice none 0 0]] W fun e w' => ∃ m B V, e = .returned (.tuple #[.pointer (some ⟨m, 0, none⟩), .int .i64 0]) ∧ Hid (Below W.heap.size W w') ∧ Hid (Mac w' m B V (fun _ => none) (fun _ => 0) rsF [] 0 0 0) ∧ Hid (∀ j, Mine m B V (fun _ => none) j → W.heap.size ≤ j)) := fun W g hS => by
    refine (new_any hS (U64.SV.nil _) fits_F (fun _ h => by cases h)).mono ?_
    rintro e w' ⟨pm, rfl, hb, hm⟩
    rcases hm.out with ⟨h0, _⟩ | ⟨_, m, B, V, rfl, h1, h2⟩
    · exact absurd refW_F h0
    · exact ⟨m, B, V, by rw [refW_F], hb, h1, h2⟩
  go_enter Try.func5, Try.ntmps5
  go_wp2_with fail
  refine (HNw.out _ _ (U64.one_sv (x := (4096, 65536)) (U64.new2 rfl _ _ _).1 (U64.new2 rfl _ _ _).2)).mono ?_
  rintro e w1 ⟨m, B, V, rfl, HB1, HM1, HJ1⟩
  have hbr : Below w.heap.size w (w.alloc (Obj.cells #[.int .u64 4096, .int .u64 65536] 48)) := (Below.refl _ _).alloc (Nat.le_refl _) _
  have HBw1 : Hid (Below w.heap.size w w1) := hbr.trans (HB1.out.mono hbr.size)
  have HJw : Hid (∀ j, Mine m B V (fun _ => none) j → w.heap.size ≤ j) := fun j hj => Nat.le_trans hbr.size (HJ1.out j hj)
  clear hbr HNw HB1 HJ1
  have HSt : Hid (∀ (W : World) (T : Nat → Option Nat) (M : Nat → Nat) (n a v : Nat), n ≤ 10 → 4096 ≤ a → a + 8 ≤ 69632 → v ≤ 18446744073709551615 → Mac W m B V T M rsF [] 0 n 0 → (∀ j, Mine m B V T j → w.heap.size ≤ j) → Below w.heap.size w W → Calls Try.prog 13 #[.pointer (some ⟨m, 0, none⟩), .int .u64 (a : Int), .int .i64 8, .int .u64 (v : Int)] W fun e w' => ∃ T', e = .returned (FaultV 0 0) ∧ Hid (Mac w' m B V T' (putAt M a ((Pl.le 8 v).take 8)) rsF [] 0 (n + 1) 0) ∧ Hid (∀ j, Mine m B V T' j → w.heap.size ≤ j) ∧ Hid (Below w.heap.size w w')) := fun W T M n a v hn ha ha2 hv hm hj hb => by
    refine (store_any (n := 8) hm (by omega) (.inr (.inr (.inr rfl))) hv (by omega) (by omega)).mono ?_
    rintro e w' ⟨x, b, ho, rfl, hk, _, hok⟩
    have hbf : b = false := by
      cases b with
      | false => rfl
      | true =>
        obtain ⟨i, hi, _, _, hnn, _⟩ := ho.1 rfl
        exact absurd (on_F (by omega) (by omega)) hnn
    subst hbf
    obtain ⟨hx, _⟩ := ho.2 rfl
    subst hx
    obtain ⟨T', h1, h2⟩ := hok rfl
    have hge : ∀ j, Mine m B V T' j → w.heap.size ≤ j := fun j hj' => by
      rcases hj' with rfl | hj' | ⟨u, hu, hj'⟩
      · exact hj _ (.inl rfl)
      · by_cases hlt : j < W.heap.size
        · exact hj j (.inr (.inl (h2.foot hj' hlt)))
        · have := hb.size; omega
      · exact hj j (.inr (.inr ⟨u, hu, hj'⟩))
    exact ⟨T', rfl, h1, hge, hb.trans (hk.below hb.size (fun i _ e => hj i (e.elim .inl (fun h => .inr (.inl h)))))⟩
  go_wp2_with fail
  refine (HSt.out w1 _ _ 0 4096 8193 (by omega) (by omega) (by omega) (by omega) HM1.out HJw.out HBw1.out).mono ?_
  rintro e w2 ⟨T2, rfl, HM2, HJ2, HB2⟩
  clear HM1 HJw HBw1
  go_wp2_with fail
  refine (HSt.out w2 _ _ 1 8192 12289 (by omega) (by omega) (by omega) (by omega) HM2.out HJ2.out HB2.out).mono ?_
  rintro e w3 ⟨T3, rfl, HM3, HJ3, HB3⟩
  clear HM2 HJ2 HB2
  go_wp2_with fail
  refine (HSt.out w3 _ _ 2 12312 20483 (by omega) (by omega) (by omega) (by omega) HM3.out HJ3.out HB3.out).mono ?_
  rintro e w4 ⟨T4, rfl, HM4, HJ4, HB4⟩
  clear HM3 HJ3 HB3 HSt
  go_wp2_with fail
  go_ret
  exact ⟨m, B, V, T4, rfl, ⟨0, 3, 0, by omega, by omega, by omega, HM4.out⟩, HB4, HJ4⟩
theorem few_any (w : World) : Calls Try.prog 5 #[] w fun e w' => ∃ m B V T, e = .returned (.pointer (some ⟨m, 0, none⟩)) ∧ Hid (Mx w' m B V T MF rsF [] 3) ∧ Hid (Below w.heap.size w w') ∧ Hid (w.heap.size ≤ m) :=
  (few_more w).mono fun _ _ ⟨m, B, V, T, h1, h2, h3, h4⟩ => ⟨m, B, V, T, h1, h2, h3, h4.out m (.inl rfl)⟩
theorem eqlF (w : World) (a b c d : Int) : (binOp .eql 27 (.agg #[.int .i64 a, .int .u64 b]) (.agg #[.int .i64 c, .int .u64 d])).run Try.prog w = .ok (.bool ((a == c) && (b == d))) w := by
  have u1 := Try.underlying25
  have a1 := Try.isAgg25
  have z1 := Try.sizeOf25
  have u := Try.underlying24
  have a2 := Try.isAgg24
  have z := Try.sizeOf24
  have hS : Try.prog.underlying 27 = some (.struct (Try.prog.fieldsOf 27)) := by kernel_rfl
  have hp : Try.prog.stoodInHeld 27 = false := by kernel_rfl
  rw [run_eql_struct, show (10000 : Nat) = 9999 + 1 from rfl, run_equalIn_agg w 9999 27 _ _ hS hp]
  simp only [Program.fieldsOf, Try.underlying27]
  go_simp
  by_cases h1 : a = c <;> by_cases h2 : b = d <;> simp [h1, h2]
theorem guardF : Try.prog.eqGuardType Try.prog.depth 27 = false := by kernel_rfl
set_option maxRecDepth 100000 in
set_option maxHeartbeats 4000000 in
theorem awake_any (w : World) : Calls Try.prog 11 #[] w fun e w' => e = .returned (.bool true) ∧ Below w.heap.size w w' := by
  go_enter Try.func11, Try.ntmps11
  go_wp2_with fail
  refine (few_any w).mono ?_
  rintro e w1 ⟨m, B, V, T, rfl, HM1, HB1, HW1⟩
  have HLd : Hid (∀ W, Mx W m B V T MF rsF [] 3 → Calls Try.prog 7 #[.iface 22 (.pointer (some ⟨m, 0, none⟩)), .int .u64 4096, .int .u64 12288, .int .i64 8] W fun e w' => ∃ z x : Int, e = .returned (.tuple #[.int .u64 z, .agg #[.int .i64 0, .int .u64 x]]) ∧ Hid (Mx w' m B V T MF rsF [] 35) ∧ Hid (Keeps (fun j => j = m) W w')) := fun W hW => by
    refine (wload_any (t := 4096) (v := 12288) (k := 8) hW (by omega) (by omega) (.inr (.inr (.inr rfl)))).mono ?_
    rintro e w' ⟨rfl, h1, h2⟩
    rw [take_F1]
    exact ⟨_, _, rfl, h1, h2⟩
  have HFt : Hid (∀ W, Mx W m B V T MF rsF [] 35 → Calls Try.prog 10 #[.iface 22 (.pointer (some ⟨m, 0, none⟩)), .int .u64 4096, .int .u64 12288, .int .i64 8] W fun e w' => e = .returned (.tuple #[.int .u64 0, .agg #[.int .i64 44, .int .u64 12288]]) ∧ Hid (Keeps (fun j => j = m) W w')) := fun W hW => by
    refine (wfetch_any (t := 4096) (v := 12288) (k := 8) hW (by omega) (by omega) (.inr (.inr (.inr rfl)))).mono ?_
    rintro e w' ⟨rfl, h1, h2⟩
    rw [take_F3]
    exact ⟨rfl, h2⟩
  have hml := HM1.out.lt
  go_wp2_with fail
  refine (HLd.out _ HM1.out).mono ?_
  rintro e w2 ⟨z, x, rfl, HM2, HK2⟩
  have HB2 : Hid (Below w.heap.size w w2) := HB1.out.trans (HK2.out.below HB1.out.size (fun i _ e => by have := HW1.out; have e : i = m := e; omega))
  have hb3 : Below w2.heap.size w2 (w2.alloc (Obj.cells #[.int .i64 0, .int .u64 x] 27)) := (Below.refl _ _).alloc (Nat.le_refl _) _
  have HM3 := Lib.hid (HM2.out.below hb3)
  have HF3 := Lib.hid (BoxF.new w2 0 x)
  have HB3 : Hid (Below w.heap.size w (w2.alloc (Obj.cells #[.int .i64 0, .int .u64 x] 27))) := HB2.out.alloc HB2.out.size _
  have hm2 := HM2.out.lt
  clear hb3 HLd HM1 HK2
  go_wp2_with fail
  refine (HFt.out _ HM3.out).mono ?_
  rintro e w4 ⟨rfl, HK4⟩
  have HF4 : Hid (BoxF w4 w2.heap.size 0 x) := HF3.out.keeps HK4.out (show ¬ w2.heap.size = m by omega)
  have HB4 : Hid (Below w.heap.size w w4) := HB3.out.trans (HK4.out.below HB3.out.size (fun i _ e => by have := HW1.out; have e : i = m := e; omega))
  have y0 := fun X => U64.cell_alloc' X HF4.out.cells.1
  have hef := eqlF
  have hge : ∀ W x y, (eqGuard .eql 27 x y (.agg #[.int .i64 44, .int .u64 12288]) (.agg #[.int .i64 44, .int .u64 12288])).run Try.prog W = .ok () W := fun W x y => run_eqGuard_agg W _ _ _ _ _ _ guardF
  clear HFt HK4 HM3 HF3
  go_wp2_with fail
  go_ret
  exact ⟨rfl, HB4.out.alloc HB4.out.size _⟩
end Go.Proofs.Ytehedllcdpjebaa
