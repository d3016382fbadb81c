import Derived.Test.YtdkhhofgfbnmkaaGreatPf18
import Derived.Test.YtdkhhofgfbnmkaaGreatPf15
import Derived.Test.YtdkhhofgfbnmkaaGreatPf09
import Derived.Laws.StructEq
import Derived.Test.YtdkhhofgfbnmkaaGreatRows
import Derived.RangeFuncNested
import Derived.RangeFuncBound
import Derived.RangeFuncCalls
import Derived.RangeFuncLeaves
import Derived.Lib.Hide
/- New of any bus. Own work. -/
namespace Go.Proofs.YtdkhhofgfbnmkaaGreat
open Go.RowKit Go.Maps Go.Proofs.YtdkhhofgfbnmkaaGreat.Sp
/-- the machine of a bus, or none -/
def MadeR (base : Nat) (W : World) (pm : Option Addr) (rs ds : List Sp) : Prop :=
  (refW rs ds ≠ 0 ∧ pm = none) ∨ (refW rs ds = 0 ∧ ∃ m B V, pm = some ⟨m, 0, none⟩ ∧ Mac W m B V (fun _ => none) (fun _ => 0) rs ds 0 0 0 ∧ ∀ j, Mine m B V (fun _ => none) j → base ≤ j)
theorem MadeR.keeps {Z : Nat → Prop} {base : Nat} {W W' : World} {pm : Option Addr} {rs ds : List Sp} (h : MadeR base W pm rs ds) (hk : Keeps Z W W') (hz : ∀ j, Z j → j < base) : MadeR base W' pm rs ds := by
  rcases h with h | ⟨h0, m, B, V, e, hm, hj⟩
  · exact .inl h
  · exact .inr ⟨h0, m, B, V, e, hm.keeps hk (fun j hj' hz' => by have := hj j hj'; have := hz j hz'; omega), hj⟩
theorem MadeR.below {base : Nat} {W W' : World} {pm : Option Addr} {rs ds : List Sp} (h : MadeR base W pm rs ds) (hb : Below W.heap.size W W') : MadeR base W' pm rs ds :=
  h.keeps (Keeps.of_below (S := fun _ => False) hb) (fun _ h => h.elim)
theorem MadeR.mono {base base' : Nat} {W : World} {pm : Option Addr} {rs ds : List Sp} (h : MadeR base W pm rs ds) (hb : base' ≤ base) : MadeR base' W pm rs ds := by
  rcases h with h | ⟨h0, m, B, V, e, hm, hj⟩
  · exact .inl h
  · exact .inr ⟨h0, m, B, V, e, hm, fun j h => Nat.le_trans hb (hj j h)⟩
theorem new_any {w : World} {vr vd : Value} {rs ds : List Sp} (hr : U64.SV w vr rs) (hd : U64.SV w vd ds) (fr : Fits 18446744073709551615 rs) (fd : Fits 18446744073709551615 ds) :
    Calls Tryz.prog 16 #[.agg #[vr, vd]] w fun e w' => ∃ pm, e = .returned (.tuple #[.pointer pm, .int .i64 (refW rs ds)]) ∧ Hid (Below w.heap.size w w') ∧ Hid (MadeR w.heap.size w' pm rs ds) := by
  by_cases hl : 8 < rs.length ∨ 32 < ds.length
  · have e : refW rs ds = 4 := if_pos hl
    refine (new_many hr hd hl).mono ?_
    rintro _ w' ⟨rfl, hb⟩
    exact ⟨none, by rw [e], hb, .inl ⟨by rw [e]; decide, rfl⟩⟩
  · by_cases s1 : stakeW 18446744073709551615 [] rs = 0
    · by_cases s2 : stakeW 1048576 rs ds = 0
      · by_cases s3 : 67108864 < smR rs
        · have e : refW rs ds = 36 := by rw [refW, if_neg hl]; simp [s1, s2, s3]
          refine (new_big hr hd (by omega) (by omega) fr fd s1 s2 (fun G hG => by have := ground_tot fr s1 hG; omega)).mono ?_
          rintro _ w' ⟨rfl, hb⟩
          exact ⟨none, by rw [e], hb, .inl ⟨by rw [e]; decide, rfl⟩⟩
        · have e : refW rs ds = 0 := by rw [refW, if_neg hl]; simp [s1, s2, s3]
          refine (new_ok hr hd (by omega) (by omega) fr fd s1 s2 (fun G hG => by have := ground_tot fr s1 hG; omega)).mono ?_
          rintro _ w' ⟨m, B, V, rfl, hb, hm, hj⟩
          exact ⟨some ⟨m, 0, none⟩, by rw [e], hb, .inr ⟨e, m, B, V, rfl, hm, hj⟩⟩
      · have e : refW rs ds = stakeW 1048576 rs ds := by rw [refW, if_neg hl]; simp [s1, s2]
        refine (new_bad2 hr hd (by omega) (by omega) fr fd s1 s2).mono ?_
        rintro _ w' ⟨rfl, hb⟩
        exact ⟨none, by rw [e], hb, .inl ⟨by rw [e]; exact s2, rfl⟩⟩
    · have e : refW rs ds = stakeW 18446744073709551615 [] rs := by rw [refW, if_neg hl]; simp [s1]
      refine (new_bad1 hr hd (by omega) (by omega) fr s1).mono ?_
      rintro _ w' ⟨rfl, hb⟩
      exact ⟨none, by rw [e], hb, .inl ⟨by rw [e]; exact s1, rfl⟩⟩
end Go.Proofs.YtdkhhofgfbnmkaaGreat
/- bulkheadlaw4.few, awake. Own work. -/
namespace Go.Proofs.YtdkhhofgfbnmkaaGreat
open Go.RowKit Go.Maps Go.Proofs.YtdkhhofgfbnmkaaGreat.Sp Wk
def rsF : List Sp := [(4096, 65536)]
/-- the bytes of the small machine -/
def MF : Nat → Nat := putAt (putAt (putAt (fun _ => 0) 4096 ((Pl.le 8 8193).take 8)) 8192 ((Pl.le 8 12289).take 8)) 12312 ((Pl.le 8 20483).take 8)
theorem on_F {p : Int} (h1 : 4096 ≤ p) (h2 : p < 69632) : On (rsF ++ []) p := ⟨(4096, 65536), List.mem_cons_self .., h1, by show p < 4096 + 65536; omega⟩
theorem look_F0 : lookF (rsF ++ []) MF 4096 0 = ((8192, true, false, false, false), 0) := by
  unfold lookF
  rw [if_pos (fun i hi => on_F (by omega) (by omega)), show Pl.num 8 (rdTo MF 4096 8 8) = 8193 by decide]
  decide
theorem look_F1 : lookF (rsF ++ []) MF 8192 1 = ((12288, true, false, false, false), 0) := by
  unfold lookF
  rw [if_pos (fun i hi => on_F (by omega) (by omega)), show Pl.num 8 (rdTo MF 8192 8 8) = 12289 by decide]
  decide
theorem look_F2 : lookF (rsF ++ []) MF 12312 2 = ((20480, false, false, true, false), 0) := by
  unfold lookF
  rw [if_pos (fun i hi => on_F (by omega) (by omega)), show Pl.num 8 (rdTo MF 12312 8 8) = 20483 by decide]
  decide
theorem leaf_F {v : Nat} (h1 : 12288 ≤ v) (h2 : v < 16384) : leafF (rsF ++ []) MF v 3 0 4096 = ((20480, false, false, true, false), 0) := by
  have e0 : 4096 + 8 * (v / (4096 * pgs 0) % 512) = 4096 := by
    have : pgs 0 = 262144 := by decide
    rw [this]; omega
  have e1 : 8192 + 8 * (v / (4096 * pgs 1) % 512) = 8192 := by
    have : pgs 1 = 512 := by decide
    rw [this]; omega
  have e2 : 12288 + 8 * (v / (4096 * pgs 2) % 512) = 12312 := by
    have : pgs 2 = 1 := by decide
    rw [this]; omega
  rw [leafF, e0]
  have l0 := look_F0
  have l1 := look_F1
  have l2 := look_F2
  rw [show ((0 : Nat) : Int) = 0 from rfl, l0, if_neg (by simp), leafF]
  rw [show ((0 + 1 : Nat) : Int) = 1 from rfl]
  rw [show (0 : Nat) + 1 = 1 from rfl, e1, l1, if_neg (by simp), leafF]
  rw [show ((1 + 1 : Nat) : Int) = 2 from rfl]
  rw [show (1 : Nat) + 1 = 2 from rfl, e2, l2, if_pos (by simp)]
theorem adr_F {v : Nat} {acc : Int} (ha : acc = 1 ∨ acc = 3) (h1 : 12288 ≤ v) (h2 : v < 16384) : adrF (rsF ++ []) MF 4096 v acc = if acc = 1 then (20480 + v % 4096, 0) else (0, 44) := by
  unfold adrF
  rw [if_neg (by omega), if_neg (by omega), if_neg (by omega), leaf_F h1 h2]
  rcases ha with rfl | rfl
  · simp [addrB]
  · simp [addrB]
theorem take_F1 : (takeV (rsF ++ []) MF 4096 12288 1 8).2.1 = 0 := by
  have hv : ∀ i, i < 8 → vv 12288 i = 12288 + i := fun i hi => by unfold vv; omega
  have ha : ∀ i, i < 8 → ad (rsF ++ []) MF 4096 12288 1 i = (20480 + (12288 + i) % 4096, 0) := fun i hi => by
    unfold ad
    rw [hv i hi, adr_F (.inl rfl) (by omega) (by omega)]
    rfl
  rw [takeV, reach_ok (fun j hj => by rw [ha j hj]) (fun j hj => by rw [ha j hj]; exact on_F (by omega) (by omega))]
theorem take_F3 : takeV (rsF ++ []) MF 4096 12288 3 8 = (0, 44, 12288) := by
  have ha : ad (rsF ++ []) MF 4096 12288 3 0 = (0, 44) := by
    unfold ad
    rw [show vv 12288 0 = 12288 by decide, adr_F (.inr rfl) (by omega) (by omega)]
    rfl
  rw [takeV, reach_tr (i := 0) (fun j hj => absurd hj (Nat.not_lt_zero _)) (by rw [ha]; decide) (by decide), ha]
  rfl
theorem fits_F : Fits 18446744073709551615 rsF := fun x hx => by
  rw [List.mem_singleton.1 hx]
  decide
theorem refW_F : refW rsF [] = 0 := by decide
set_option maxRecDepth 100000 in
set_option maxHeartbeats 4000000 in
theorem few_more (w : World) : Calls Tryz.prog 13 #[] w fun e w' => ∃ m B V T, e = .returned (.pointer (some ⟨m, 0, none⟩)) ∧ Hid (Mx w' m B V T MF rsF [] 3) ∧ Hid (Below w.heap.size w w') ∧ Hid (∀ j, Mine m B V T j → w.heap.size ≤ j) := by
  have HNw : Hid (∀ W g, U64.SV W (.slice (some ⟨g, 0, none⟩) 1 1) rsF → Calls Tryz.prog 16 #[.agg #[.slice (some ⟨g, 0, none⟩) 1 1, .slice none 0 0]] W fun e w' => ∃ m B V, e = .returned (.tuple #[.pointer (some ⟨m, 0, none⟩), .int .i64 0]) ∧ Hid (Below W.heap.size W w') ∧ Hid (Mac w' m B V (fun _ => none) (fun _ => 0) rsF [] 0 0 0) ∧ Hid (∀ j, Mine m B V (fun _ => none) j → W.heap.size ≤ j)) := fun W g hS => by
    refine (new_any hS (U64.SV.nil _) fits_F (fun _ h => by cases h)).mono ?_
    rintro e w' ⟨pm, rfl, hb, hm⟩
    rcases hm.out with ⟨h0, _⟩ | ⟨_, m, B, V, rfl, h1, h2⟩
    · exact absurd refW_F h0
    · exact ⟨m, B, V, by rw [refW_F], hb, h1, h2⟩
  go_enter Tryz.func13, Tryz.ntmps13
  go_wp2_with fail
  refine (HNw.out _ _ (U64.one_sv (x := (4096, 65536)) (U64.new2 rfl _ _ _).1 (U64.new2 rfl _ _ _).2)).mono ?_
  rintro e w1 ⟨m, B, V, rfl, HB1, HM1, HJ1⟩
  have hbr : Below w.heap.size w (w.alloc (Obj.cells #[.int .u64 4096, .int .u64 65536] 65)) := (Below.refl _ _).alloc (Nat.le_refl _) _
  have HBw1 : Hid (Below w.heap.size w w1) := hbr.trans (HB1.out.mono hbr.size)
  have HJw : Hid (∀ j, Mine m B V (fun _ => none) j → w.heap.size ≤ j) := fun j hj => Nat.le_trans hbr.size (HJ1.out j hj)
  clear hbr HNw HB1 HJ1
  have HSt : Hid (∀ (W : World) (T : Nat → Option Nat) (M : Nat → Nat) (n a v : Nat), n ≤ 10 → 4096 ≤ a → a + 8 ≤ 69632 → v ≤ 18446744073709551615 → Mac W m B V T M rsF [] 0 n 0 → (∀ j, Mine m B V T j → w.heap.size ≤ j) → Below w.heap.size w W → Calls Tryz.prog 17 #[.pointer (some ⟨m, 0, none⟩), .int .u64 (a : Int), .int .i64 8, .int .u64 (v : Int)] W fun e w' => ∃ T', e = .returned (FaultV 0 0) ∧ Hid (Mac w' m B V T' (putAt M a ((Pl.le 8 v).take 8)) rsF [] 0 (n + 1) 0) ∧ Hid (∀ j, Mine m B V T' j → w.heap.size ≤ j) ∧ Hid (Below w.heap.size w w')) := fun W T M n a v hn ha ha2 hv hm hj hb => by
    refine (store_any (n := 8) hm (by omega) (.inr (.inr (.inr rfl))) hv (by omega) (by omega)).mono ?_
    rintro e w' ⟨x, b, ho, rfl, hk, _, hok⟩
    have hbf : b = false := by
      cases b with
      | false => rfl
      | true =>
        obtain ⟨i, hi, _, _, hnn, _⟩ := ho.1 rfl
        exact absurd (on_F (by omega) (by omega)) hnn
    subst hbf
    obtain ⟨hx, _⟩ := ho.2 rfl
    subst hx
    obtain ⟨T', h1, h2⟩ := hok rfl
    have hge : ∀ j, Mine m B V T' j → w.heap.size ≤ j := fun j hj' => by
      rcases hj' with rfl | hj' | ⟨u, hu, hj'⟩
      · exact hj _ (.inl rfl)
      · by_cases hlt : j < W.heap.size
        · exact hj j (.inr (.inl (h2.foot hj' hlt)))
        · have := hb.size; omega
      · exact hj j (.inr (.inr ⟨u, hu, hj'⟩))
    exact ⟨T', rfl, h1, hge, hb.trans (hk.below hb.size (fun i _ e => hj i (e.elim .inl (fun h => .inr (.inl h)))))⟩
  go_wp2_with fail
  refine (HSt.out w1 _ _ 0 4096 8193 (by omega) (by omega) (by omega) (by omega) HM1.out HJw.out HBw1.out).mono ?_
  rintro e w2 ⟨T2, rfl, HM2, HJ2, HB2⟩
  clear HM1 HJw HBw1
  go_wp2_with fail
  refine (HSt.out w2 _ _ 1 8192 12289 (by omega) (by omega) (by omega) (by omega) HM2.out HJ2.out HB2.out).mono ?_
  rintro e w3 ⟨T3, rfl, HM3, HJ3, HB3⟩
  clear HM2 HJ2 HB2
  go_wp2_with fail
  refine (HSt.out w3 _ _ 2 12312 20483 (by omega) (by omega) (by omega) (by omega) HM3.out HJ3.out HB3.out).mono ?_
  rintro e w4 ⟨T4, rfl, HM4, HJ4, HB4⟩
  clear HM3 HJ3 HB3 HSt
  go_wp2_with fail
  go_ret
  exact ⟨m, B, V, T4, rfl, ⟨0, 3, 0, by omega, by omega, by omega, HM4.out⟩, HB4, HJ4⟩
theorem few_any (w : World) : Calls Tryz.prog 13 #[] w fun e w' => ∃ m B V T, e = .returned (.pointer (some ⟨m, 0, none⟩)) ∧ Hid (Mx w' m B V T MF rsF [] 3) ∧ Hid (Below w.heap.size w w') ∧ Hid (w.heap.size ≤ m) :=
  (few_more w).mono fun _ _ ⟨m, B, V, T, h1, h2, h3, h4⟩ => ⟨m, B, V, T, h1, h2, h3, h4.out m (.inl rfl)⟩
theorem eqlF (w : World) (a b c d : Int) : (binOp .eql 57 (.agg #[.int .i64 a, .int .u64 b]) (.agg #[.int .i64 c, .int .u64 d])).run Tryz.prog w = .ok (.bool ((a == c) && (b == d))) w := by
  have u1 := Tryz.underlying55
  have a1 := Tryz.isAgg55
  have z1 := Tryz.sizeOf55
  have u := Tryz.underlying34
  have a2 := Tryz.isAgg34
  have z := Tryz.sizeOf34
  have hS : Tryz.prog.underlying 57 = some (.struct (Tryz.prog.fieldsOf 57)) := by kernel_rfl
  have hp : Tryz.prog.stoodInHeld 57 = false := by kernel_rfl
  rw [run_eql_struct, show (10000 : Nat) = 9999 + 1 from rfl, run_equalIn_agg w 9999 57 _ _ hS hp]
  simp only [Program.fieldsOf, Tryz.underlying57]
  go_simp
  by_cases h1 : a = c <;> by_cases h2 : b = d <;> simp [h1, h2]
theorem guardF : Tryz.prog.eqGuardType Tryz.prog.depth 57 = false := by kernel_rfl
set_option maxRecDepth 100000 in
set_option maxHeartbeats 4000000 in
theorem awake_any (w : World) : Calls Tryz.prog 5 #[] w fun e w' => e = .returned (.bool true) ∧ Below w.heap.size w w' := by
  go_enter Tryz.func5, Tryz.ntmps5
  go_wp2_with fail
  refine (few_any w).mono ?_
  rintro e w1 ⟨m, B, V, T, rfl, HM1, HB1, HW1⟩
  have HLd : Hid (∀ W, Mx W m B V T MF rsF [] 3 → Calls Tryz.prog 14 #[.iface 28 (.pointer (some ⟨m, 0, none⟩)), .int .u64 4096, .int .u64 12288, .int .i64 8] W fun e w' => ∃ z x : Int, e = .returned (.tuple #[.int .u64 z, .agg #[.int .i64 0, .int .u64 x]]) ∧ Hid (Mx w' m B V T MF rsF [] 35) ∧ Hid (Keeps (fun j => j = m) W w')) := fun W hW => by
    refine (wload_any (t := 4096) (v := 12288) (k := 8) hW (by omega) (by omega) (.inr (.inr (.inr rfl)))).mono ?_
    rintro e w' ⟨rfl, h1, h2⟩
    rw [take_F1]
    exact ⟨_, _, rfl, h1, h2⟩
  have HFt : Hid (∀ W, Mx W m B V T MF rsF [] 35 → Calls Tryz.prog 15 #[.iface 28 (.pointer (some ⟨m, 0, none⟩)), .int .u64 4096, .int .u64 12288, .int .i64 8] W fun e w' => e = .returned (.tuple #[.int .u64 0, .agg #[.int .i64 44, .int .u64 12288]]) ∧ Hid (Keeps (fun j => j = m) W w')) := fun W hW => by
    refine (wfetch_any (t := 4096) (v := 12288) (k := 8) hW (by omega) (by omega) (.inr (.inr (.inr rfl)))).mono ?_
    rintro e w' ⟨rfl, h1, h2⟩
    rw [take_F3]
    exact ⟨rfl, h2⟩
  have hml := HM1.out.lt
  go_wp2_with fail
  refine (HLd.out _ HM1.out).mono ?_
  rintro e w2 ⟨z, x, rfl, HM2, HK2⟩
  have HB2 : Hid (Below w.heap.size w w2) := HB1.out.trans (HK2.out.below HB1.out.size (fun i _ e => by have := HW1.out; have e : i = m := e; omega))
  have hb3 : Below w2.heap.size w2 (w2.alloc (Obj.cells #[.int .i64 0, .int .u64 x] 57)) := (Below.refl _ _).alloc (Nat.le_refl _) _
  have HM3 := Lib.hid (HM2.out.below hb3)
  have HF3 := Lib.hid (BoxF.new w2 0 x)
  have HB3 : Hid (Below w.heap.size w (w2.alloc (Obj.cells #[.int .i64 0, .int .u64 x] 57))) := HB2.out.alloc HB2.out.size _
  have hm2 := HM2.out.lt
  clear hb3 HLd HM1 HK2
  go_wp2_with fail
  refine (HFt.out _ HM3.out).mono ?_
  rintro e w4 ⟨rfl, HK4⟩
  have HF4 : Hid (BoxF w4 w2.heap.size 0 x) := HF3.out.keeps HK4.out (show ¬ w2.heap.size = m by omega)
  have HB4 : Hid (Below w.heap.size w w4) := HB3.out.trans (HK4.out.below HB3.out.size (fun i _ e => by have := HW1.out; have e : i = m := e; omega))
  have y0 := fun X => U64.cell_alloc' X HF4.out.cells.1
  have hef := eqlF
  have hge : ∀ W x y, (eqGuard .eql 57 x y (.agg #[.int .i64 44, .int .u64 12288]) (.agg #[.int .i64 44, .int .u64 12288])).run Tryz.prog W = .ok () W := fun W x y => run_eqGuard_agg W _ _ _ _ _ _ guardF
  clear HFt HK4 HM3 HF3
  go_wp2_with fail
  go_ret
  exact ⟨rfl, HB4.out.alloc HB4.out.size _⟩
end Go.Proofs.YtdkhhofgfbnmkaaGreat
/- A range over a function, its record in sight: for iterators that write cells. Own work. -/
namespace Go.Proofs.YtdkhhofgfbnmkaaGreat
open Go.RowKit
/-- a loop's record in a state -/
def recS (r : Loop) (st : LoopState) (pe : Option Code) : Loop := { r with state := st, pending := pe }
/-- the record at its block -/
def RecAt (W : World) (l : Nat) (r : Loop) (st : LoopState) (pe : Option Code) : Prop := W.heap[l]? = some (.loop (recS r st pe))
theorem RecAt.lt {W : World} {l : Nat} {r : Loop} {st : LoopState} {pe : Option Code} (h : RecAt W l r st pe) : l < W.heap.size := (Array.getElem?_eq_some_iff.1 (show W.heap[l]? = _ from h)).1
/-- what a round's body must come to -/
def roundP (l : Nat) (r : Loop) (R : Ending → World → Prop) : Exit → Act → World → Prop
  | .normal, _, w => RecAt w l r .busy none ∧ R (.returned (.bool true)) (w.putObj l (.loop (recS r .ready none)))
  | .ret, _, w => RecAt w l r .busy none ∧ R (.returned (.bool false)) (w.putObj l (.loop (recS r .done (some .ret))))
  | .exit id, _, w => RecAt w l r .busy none ∧ R (.returned (.bool false)) (w.putObj l (.loop (recS r .done (some (.exit id)))))
  | _, _, _ => False
variable {F : Fence} {n : Nat} {P : Program}
/-- one round out of its assignments and its body -/
theorem yield_of {l : Nat} {r : Loop} {args : Array Value} {W : World} {R : Ending → World → Prop} (hl : RecAt W l r .ready none) (hs : args.size = r.params.size) (hF : F.fn r.fn)
    (h : r.assign.wpIn (F.inRound l) n P (Exit.then (fun a1 w1 => RecAt w1 l r .ready none ∧ (RecAt (w1.putObj l (.loop (recS r .busy none))) l r .busy none → r.body.wpIn (F.inRound l) n P (roundP l r R) a1 (w1.putObj l (.loop (recS r .busy none))))) (fun _ _ _ => False))
      { tmps := (r.params.zip args).foldl (fun t (p, v) => t.setIfInBounds p v) r.tmps, defers := [] } W) : YieldAt F n P l args W R := by
  have hy := run_yield (P := P) (args := args) hl (by simpa [recS] using hs)
  refine ⟨r.fn, _, r.assign, r.body, hy, roundIn_of_wpIn hF (wpIn_mono h ?_)⟩
  intro e a1 w1 hp
  cases e with
  | normal =>
    obtain ⟨hr, hb⟩ := hp
    have hrun := run_beginRound (P := P) hr rfl
    refine ⟨_, hrun, wpIn_mono (hb (World.putObj_heap_same hr.lt)) ?_⟩
    intro e2 a2 w2 hp2
    cases e2 with
    | normal => exact ⟨_, _, run_endRound (P := P) none hp2.1, hp2.2⟩
    | ret => exact ⟨_, _, run_endRound (P := P) (some .ret) hp2.1, hp2.2⟩
    | exit id => exact ⟨_, _, run_endRound (P := P) (some (.exit id)) hp2.1, hp2.2⟩
    | goto t => exact hp2.elim
    | panic ch => exact hp2.elim
    | outgrown => exact hp2.elim
  | ret => exact hp.elim
  | exit id => exact hp.elim
  | goto t => exact hp.elim
  | panic ch => exact hp.elim
  | outgrown => exact hp.elim
/-- what the iterator must come to -/
def IterP (l : Nat) (r : Loop) (D : World → Prop) (S : Code → World → Prop) (e : Ending) (W : World) : Prop :=
  (∃ v, e = .returned v) ∧ ((RecAt W l r .ready none ∧ D (W.putObj l (.loop (recS r .exhausted none)))) ∨ ∃ c, RecAt W l r .done (some c) ∧ S c (W.putObj l (.loop (recS r .exhausted (some c)))))
theorem IterP.range {l : Nat} {r : Loop} {D : World → Prop} {S : Code → World → Prop} {Q : Exit → Act → World → Prop} {a : Act} (hD : ∀ W, D W → Q .normal a W) (hS : ∀ c W, S c W → c.wpIn F n P Q a W) (e : Ending) (W : World) (h : IterP l r D S e W) : rangePost F n P l Q a e W := by
  obtain ⟨⟨v, rfl⟩, ⟨hr, h⟩ | ⟨c, hr, h⟩⟩ := h
  · exact ⟨none, _, run_endLoop (P := P) hr (by simp [recS]), hD _ h⟩
  · exact ⟨some c, _, run_endLoop (P := P) hr (by simp [recS]), hS c _ h⟩
/-- an outermost loop -/
theorem range_out {g : Operand} {ps : Array Tmp} {assign body : Code} {Q : Exit → Act → World → Prop} {a : Act} {w : World} (hro : F.round = none) (h1 : 1 ≤ n) {gf : Nat} {lb : Array Value} (hg : a.eval g = .func (.func gf) #[] lb) (hFg : F.fn gf) (eg : ∀ args w, (callFunc gf args).run P w = .ok (.enter gf args) w)
    (D : World → Prop) (S : Code → World → Prop)
    (h : ∀ (W : World) (r : Loop), F.fn r.fn → r.tmps = a.tmps → r.params = ps → r.assign = assign → r.body = body → W = (w.alloc (.deferred (some []))).alloc (.loop (recS r .ready none)) →
      CallsIn F (n - 1) P gf (#[.func (.yield (w.heap.size + 1)) #[] #[]] ++ lb) W (IterP (w.heap.size + 1) r D S))
    (hD : ∀ W, D W → Q .normal { a with defers := { target := .collected w.heap.size, args := #[] } :: a.defers } W)
    (hS : ∀ c W, S c W → c.wpIn F n P Q { a with defers := { target := .collected w.heap.size, args := #[] } :: a.defers } W) :
    (Code.rangeFunc g ps assign body).wpIn F n P Q a w := by
  refine wpIn_rangeFunc ?_
  intro fn hfn
  rw [hro]
  obtain ⟨r, hr⟩ : ∃ r : Loop, r = { state := .ready, pending := none, fn, tmps := a.tmps, params := ps, assign, body, defers := w.heap.size } := ⟨_, rfl⟩
  obtain ⟨W1, hW1⟩ : ∃ W1, W1 = (w.alloc (.deferred (some []))).alloc (.loop (recS r .ready none)) := ⟨_, rfl⟩
  have he : (Instr.enterLoop fn a.tmps ps assign body none).run P w = .ok (w.heap.size + 1, [{ target := .collected w.heap.size, args := #[] }]) W1 := by
    rw [hW1, hr]
    exact run_enterLoop_outer _ _ _ _ _
  have hc : CallsIn F (n - 1) P gf (#[.func (.yield (w.heap.size + 1)) #[] #[]] ++ lb) W1 (rangePost F n P (w.heap.size + 1) Q { a with defers := [{ target := .collected w.heap.size, args := #[] }] ++ a.defers }) :=
    (h W1 r (by rw [hr]; exact hfn) (by rw [hr]) (by rw [hr]) (by rw [hr]) (by rw [hr]) hW1).mono (IterP.range (a := { a with defers := [{ target := .collected w.heap.size, args := #[] }] ++ a.defers }) hD hS)
  clear hW1 hr h
  refine ⟨w.heap.size + 1, [{ target := .collected w.heap.size, args := #[] }], W1, { target := .fn (.func gf) lb, args := #[.func (.yield (w.heap.size + 1)) #[] #[]] }, W1, gf,
    #[.func (.yield (w.heap.size + 1)) #[] #[]] ++ lb, W1, he, ?_, ?_, ?_, fun _ => h1, ?_⟩
  · simp only [resolve, hg]
    simp [go_sem]
  · intro f' hf'; simp [Target.leads] at hf'; subst hf'; exact hFg
  · simp [invoke, go_sem, eg]
  · exact hc
/-- a loop within a round -/
theorem range_in {g : Operand} {ps : Array Tmp} {assign body : Code} {Q : Exit → Act → World → Prop} {a : Act} {w : World} {l₀ : Nat} {r₀ : Loop} (hro : F.round = some l₀) (hl₀ : w.heap[l₀]? = some (.loop r₀)) (h1 : 1 ≤ n) {gf : Nat} {lb : Array Value} (hg : a.eval g = .func (.func gf) #[] lb) (hFg : F.fn gf) (eg : ∀ args w, (callFunc gf args).run P w = .ok (.enter gf args) w)
    (D : World → Prop) (S : Code → World → Prop)
    (h : ∀ (W : World) (r : Loop), F.fn r.fn → r.tmps = a.tmps → r.params = ps → r.assign = assign → r.body = body → W = w.alloc (.loop (recS r .ready none)) →
      CallsIn F (n - 1) P gf (#[.func (.yield w.heap.size) #[] #[]] ++ lb) W (IterP w.heap.size r D S))
    (hD : ∀ W, D W → Q .normal a W)
    (hS : ∀ c W, S c W → c.wpIn F n P Q a W) :
    (Code.rangeFunc g ps assign body).wpIn F n P Q a w := by
  refine wpIn_rangeFunc ?_
  intro fn hfn
  rw [hro]
  obtain ⟨r, hr⟩ : ∃ r : Loop, r = { state := .ready, pending := none, fn, tmps := a.tmps, params := ps, assign, body, defers := r₀.defers } := ⟨_, rfl⟩
  obtain ⟨W1, hW1⟩ : ∃ W1, W1 = w.alloc (.loop (recS r .ready none)) := ⟨_, rfl⟩
  have he : (Instr.enterLoop fn a.tmps ps assign body (some l₀)).run P w = .ok (w.heap.size, []) W1 := by
    rw [hW1, hr]
    exact run_enterLoop_inner hl₀ _ _ _ _ _
  have hc : CallsIn F (n - 1) P gf (#[.func (.yield w.heap.size) #[] #[]] ++ lb) W1 (rangePost F n P w.heap.size Q { a with defers := [] ++ a.defers }) := (h W1 r (by rw [hr]; exact hfn) (by rw [hr]) (by rw [hr]) (by rw [hr]) (by rw [hr]) hW1).mono (IterP.range (a := { a with defers := [] ++ a.defers }) hD hS)
  clear hW1 hr h
  refine ⟨w.heap.size, [], W1, { target := .fn (.func gf) lb, args := #[.func (.yield w.heap.size) #[] #[]] }, W1, gf,
    #[.func (.yield w.heap.size) #[] #[]] ++ lb, W1, he, ?_, ?_, ?_, fun _ => h1, ?_⟩
  · simp only [resolve, hg]
    simp [go_sem]
  · intro f' hf'; simp [Target.leads] at hf'; subst hf'; exact hFg
  · simp [invoke, go_sem, eg]
  · exact hc
end Go.Proofs.YtdkhhofgfbnmkaaGreat
