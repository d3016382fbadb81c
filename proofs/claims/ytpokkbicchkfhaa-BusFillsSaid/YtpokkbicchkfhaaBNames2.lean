/- BusNames: the walk. Own work. -/
import Derived.Test.YtpokkbicchkfhaaBNames
namespace Go.Proofs.Ytpokkbicchkfhaa
open Go.RowKit Go.Maps Go.Proofs.Ytpokkbicchkfhaa.Sp
theorem eql_fault (w : World) (a b c d : Int) : (binOp .eql 33 (.agg #[.int .i64 a, .int .u64 b]) (.agg #[.int .i64 c, .int .u64 d])).run Try.prog w = .ok (.bool ((a == c) && (b == d))) w := by
  have u1 := Try.underlying23
  have a1 := Try.isAgg23
  have z1 := Try.sizeOf23
  have u := Try.underlying26
  have a2 := Try.isAgg26
  have z := Try.sizeOf26
  have hS : Try.prog.underlying 33 = some (.struct (Try.prog.fieldsOf 33)) := by kernel_rfl
  have hp : Try.prog.stoodInHeld 33 = false := by kernel_rfl
  rw [run_eql_struct, show (10000 : Nat) = 9999 + 1 from rfl, run_equalIn_agg w 9999 33 _ _ hS hp]
  simp only [Program.fieldsOf, Try.underlying33]
  go_simp
  by_cases h1 : a = c <;> by_cases h2 : b = d <;> simp [h1, h2]
theorem eql_spot (w : World) (a b e c d f : Int) : (binOp .eql 38 (.agg #[.int .i64 a, .int .i64 b, .int .u64 e]) (.agg #[.int .i64 c, .int .i64 d, .int .u64 f])).run Try.prog w = .ok (.bool ((a == c) && (b == d) && (e == f))) w := by
  have u1 := Try.underlying3
  have a1 := Try.isAgg3
  have z1 := Try.sizeOf3
  have u := Try.underlying26
  have a2 := Try.isAgg26
  have z := Try.sizeOf26
  have hS : Try.prog.underlying 38 = some (.struct (Try.prog.fieldsOf 38)) := by kernel_rfl
  have hp : Try.prog.stoodInHeld 38 = false := by kernel_rfl
  rw [run_eql_struct, show (10000 : Nat) = 9999 + 1 from rfl, run_equalIn_agg w 9999 38 _ _ hS hp]
  simp only [Program.fieldsOf, Try.underlying38]
  go_simp
  by_cases h1 : a = c <;> by_cases h2 : b = d <;> by_cases h3 : e = f <;> simp [h1, h2, h3]
theorem guard_fault : Try.prog.eqGuardType Try.prog.depth 33 = false := by kernel_rfl
theorem guard_spot : Try.prog.eqGuardType Try.prog.depth 38 = false := by kernel_rfl
theorem wpList_eql_fault {w : World} {ops : Array Oper} {rest : List Oper} {o : Oper} {a : Act} {Q : Exit → Act → World → Prop} (hw : Region.wanted o (yielded ops a.tmps) = true) (x y : Operand) {t' : TypeId} (ho : o.op = .binOp .eql 33 x y t') {p q p' q' : Int} {b : Bool} (hx : a.eval x = .agg #[.int .i64 p, .int .u64 q]) (hy : a.eval y = .agg #[.int .i64 p', .int .u64 q']) (hb : ((p == p') && (q == q')) = b)
    (hK : wpList Try.prog ops Q rest (a.put o.dst (.bool b)) w) : wpList Try.prog ops Q (o :: rest) a w := by
  refine wpList_step fun K' hK' => ?_
  rw [if_pos hw]
  unfold Oper.wp execOp
  simp only [ho, hx, hy, Sem.run_bind, Sem.run_pure, Result.andThen_ok, run_eqGuard_agg w _ _ _ _ _ _ guard_fault, eql_fault, hb]
  exact hK' _ _ hK
theorem wpList_eql_spot {w : World} {ops : Array Oper} {rest : List Oper} {o : Oper} {a : Act} {Q : Exit → Act → World → Prop} (hw : Region.wanted o (yielded ops a.tmps) = true) (x y : Operand) {t' : TypeId} (ho : o.op = .binOp .eql 38 x y t') {p q r p' q' r' : Int} {b : Bool} (hx : a.eval x = .agg #[.int .i64 p, .int .i64 q, .int .u64 r]) (hy : a.eval y = .agg #[.int .i64 p', .int .i64 q', .int .u64 r']) (hb : ((p == p') && (q == q') && (r == r')) = b)
    (hK : wpList Try.prog ops Q rest (a.put o.dst (.bool b)) w) : wpList Try.prog ops Q (o :: rest) a w := by
  refine wpList_step fun K' hK' => ?_
  rw [if_pos hw]
  unfold Oper.wp execOp
  simp only [ho, hx, hy, Sem.run_bind, Sem.run_pure, Result.andThen_ok, run_eqGuard_agg w _ _ _ _ _ _ guard_spot, eql_spot, hb]
  exact hK' _ _ hK
set_option maxRecDepth 100000 in
set_option maxHeartbeats 8000000 in
theorem names_any (w : World) : Calls Try.prog 3 #[] w fun e w' => e = .returned (.bool true) ∧ Below w.heap.size w w' := by
  go_enter Try.func3, Try.ntmps3
  go_wp2_with fail
  obtain ⟨W0, hW0⟩ : ∃ W0, (w.alloc (Obj.cells #[.int .u64 4096, .int .u64 8192] 28)).alloc (Obj.cells #[.int .u64 12288, .int .u64 4096] 28) = W0 := ⟨_, rfl⟩
  have HB0 : Hid (Below w.heap.size w W0) := hW0 ▸ ((Below.refl _ _).alloc (Nat.le_refl _) _).alloc (by simp) _
  have HNew : Hid (Calls Try.prog 8 #[.agg #[.slice (some ⟨w.heap.size, 0, none⟩) 1 1, .slice (some ⟨w.heap.size + 1, 0, none⟩) 1 1]] W0 fun e w' => ∃ m B V, e = .returned (.tuple #[.pointer (some ⟨m, 0, none⟩), .int .i64 0]) ∧ Hid (Below W0.heap.size W0 w') ∧ Hid (Mac w' m B V (fun _ => none) (fun _ => 0) rsN dsN 0 0 0) ∧ Hid (∀ j, Mine m B V (fun _ => none) j → W0.heap.size ≤ j)) := by
    have h1 : U64.SV W0 (.slice (some ⟨w.heap.size, 0, none⟩) 1 1) rsN := by
      rw [← hW0]
      exact (U64.one_sv (x := (4096, 8192)) (U64.new2 rfl _ _ _).1 (U64.new2 rfl _ _ _).2).alloc _
    have h2 : U64.SV W0 (.slice (some ⟨w.heap.size + 1, 0, none⟩) 1 1) dsN := by
      rw [← hW0]
      exact U64.one_sv (x := (12288, 4096)) (U64.new2 (by simp) _ _ _).1 (U64.new2 (by simp) _ _ _).2
    refine (new_ok h1 h2 (by decide) (by decide) (fun y hy => by simp [rsN] at hy; subst hy; simp) (fun y hy => by simp [dsN] at hy; subst hy; simp) stake_n1 stake_n2 size_n).mono ?_
    rintro e w' ⟨m, B, V, rfl, h3, h4, h5⟩
    exact ⟨m, B, V, rfl, h3, h4, h5⟩
  rw [hW0]
  clear hW0
  refine HNew.out.mono ?_
  rintro e w1 ⟨m, B, V, rfl, HB1, HM1, HN1⟩
  have hm1 := HM1.out.lt
  have HSto : Hid (Calls Try.prog 9 #[.pointer (some ⟨m, 0, none⟩), .int .u64 12284, .int .i64 8, .int .u64 18446744073709551615] w1 fun e w' => e = .returned (.agg #[.int .i64 0, .int .u64 0]) ∧ Hid (Keeps (fun j => j = m ∨ Foot B (fun _ => none) j) w1 w') ∧ ∃ T, Hid (Mac w' m B V T M1 rsN dsN 0 1 0) ∧ Hid (∀ j, Mine m B V T j → W0.heap.size ≤ j)) := by
    refine (store_any (a := 12284) (n := 8) (v := 18446744073709551615) HM1.out (by omega) (.inr (.inr (.inr rfl))) (by omega) (by omega) (by omega)).mono ?_
    rintro e w' ⟨x, b, ho, rfl, hk, _, h2⟩
    obtain rfl := off_yes ho (by omega) (by omega)
    obtain ⟨T, h3, h4⟩ := h2 rfl
    refine ⟨by rw [(ho.2 rfl).1]; rfl, hk, T, h3, fun j hj => ?_⟩
    rcases hj with rfl | (rfl | ⟨k, hk'⟩) | ⟨v, hv, e⟩
    · exact HN1.out _ (.inl rfl)
    · exact HN1.out _ (.inr (.inl (.inl rfl)))
    · rcases h4 k j hk' with h5 | h5
      · cases h5
      · have := HB1.out.size; omega
    · exact HN1.out _ (.inr (.inr ⟨v, hv, e⟩))
  go_wp2_with fail
  refine HSto.out.mono ?_
  rintro e w2 ⟨rfl, HK2, T, HM2, HN2⟩
  have hm2 := HM2.out.lt
  have HLo : Hid (∀ W, Mac W m B V T M1 rsN dsN 0 1 0 → Calls Try.prog 10 #[.pointer (some ⟨m, 0, none⟩), .int .u64 12287, .int .i64 2] W fun e w' => e = .returned (.tuple #[.int .u64 65535, .agg #[.int .i64 0, .int .u64 0]]) ∧ Hid (Mac w' m B V T M1 rsN dsN 1 1 0) ∧ Hid (Keeps (fun j => j = m) W w')) := fun W hW => by
    refine (load_any (a := 12287) (n := 2) hW (by omega) (.inr (.inl rfl)) (by omega) (by omega)).mono ?_
    rintro e w' ⟨x, b, ho, rfl, h3, hk⟩
    obtain rfl := off_yes ho (by omega) (by omega)
    refine ⟨?_, h3, hk⟩
    rw [(ho.2 rfl).1]
    simp only [Bool.false_eq_true, if_false, num_n]
    rfl
  have HLo2 : Hid (∀ W, Mac W m B V T M1 rsN dsN 1 1 0 → Calls Try.prog 10 #[.pointer (some ⟨m, 0, none⟩), .int .u64 16380, .int .i64 8] W fun e w' => e = .returned (.tuple #[.int .u64 0, .agg #[.int .i64 30, .int .u64 16384]]) ∧ Hid (Mac w' m B V T M1 rsN dsN 1 1 1) ∧ Hid (Keeps (fun j => j = m) W w')) := fun W hW => by
    refine (load_any (a := 16380) (n := 8) hW (by omega) (.inr (.inr (.inr rfl))) (by omega) (by omega)).mono ?_
    rintro e w' ⟨x, b, ho, rfl, h3, hk⟩
    obtain ⟨rfl, rfl⟩ := off_no ho
    exact ⟨rfl, h3, hk⟩
  have HWh : Hid (∀ W, Mac W m B V T M1 rsN dsN 1 1 0 → Calls Try.prog 11 #[.pointer (some ⟨m, 0, none⟩), .int .u64 12290] W fun e w' => e = .returned (.tuple #[.agg #[.int .i64 2, .int .i64 0, .int .u64 2], .bool true]) ∧ Hid (Below W.heap.size W w')) := fun W hW => by
    refine (where_any (a := 12290) hW (by omega)).mono ?_
    rintro e w' ⟨rfl, hb⟩
    exact ⟨by rw [where_n], hb⟩
  clear HSto HNew
  go_wp2_with fail
  refine (HLo.out _ (HM2.out.below ((Below.refl _ _).alloc (Nat.le_refl _) _))).mono ?_
  rintro e w3 ⟨rfl, HM3, HK3⟩
  have HF3 : Hid (BoxF w3 w2.heap.size 0 0) := (BoxF.new w2 0 0).keeps HK3.out (by omega)
  have hs3 : w2.heap.size < w3.heap.size := HF3.out.lt
  go_wp2_with fail
  refine (HWh.out _ (HM3.out.below ((Below.refl _ _).alloc (Nat.le_refl _) _))).mono ?_
  rintro e w4 ⟨rfl, HB4⟩
  have HBx : Hid (Below w3.heap.size w3 w4) := ((Below.refl _ _).alloc (Nat.le_refl _) _).trans (HB4.out.mono (by simp))
  have HM4 : Hid (Mac w4 m B V T M1 rsN dsN 1 1 0) := HM3.out.below HBx.out
  have HG4 : Hid (BoxF w4 w3.heap.size 0 0) := (BoxF.new w3 0 0).below HB4.out
  have HF4 : Hid (BoxF w4 w2.heap.size 0 0) := HF3.out.below HBx.out
  have hs4 : w3.heap.size < w4.heap.size := HG4.out.lt
  go_wp2_with fail
  refine (HLo2.out _ (HM4.out.below ((Below.refl _ _).alloc (Nat.le_refl _) _))).mono ?_
  rintro e w5 ⟨rfl, HM5, HK5⟩
  have HA4 : Hid (Keeps (fun j => j = m) w4 w5) := (Keeps.alloc (S := fun j => j = m) w4 _).trans HK5.out (fun _ _ e => e)
  have hm4 := HM4.out.lt
  have hm3 := HM3.out.lt
  have HS5 : Hid (Box3 w5 w4.heap.size (.int .i64 2) (.int .i64 0) (.int .u64 2)) := (HK5.out.block w4.heap.size (by simp) (by omega)).trans (heap_alloc_new w4 _)
  have HG5 : Hid (BoxF w5 w3.heap.size 0 0) := HG4.out.keeps HA4.out (by omega)
  have HF5 : Hid (BoxF w5 w2.heap.size 0 0) := HF4.out.keeps HA4.out (by omega)
  obtain ⟨f0, f1, _, _⟩ := HF5.out.cells
  obtain ⟨g0, g1, _, _⟩ := HG5.out.cells
  obtain ⟨s0, s1, s2, _⟩ := HS5.out.cells
  have f0 := fun X => U64.cell_alloc' X f0
  have f1 := fun X => U64.cell_alloc' X f1
  have g0 := fun X => U64.cell_alloc' X g0
  have g1 := fun X => U64.cell_alloc' X g1
  have s0 := fun X => U64.cell_alloc' X s0
  have s1 := fun X => U64.cell_alloc' X s1
  have s2 := fun X => U64.cell_alloc' X s2
  have HM6 : Hid (∀ X, Mac (w5.alloc X) m B V T M1 rsN dsN 1 1 1) := fun X => HM5.out.below ((Below.refl _ _).alloc (Nat.le_refl _) _)
  have HKe : Hid (∀ X, Calls Try.prog 12 #[.pointer (some ⟨m, 0, none⟩)] (w5.alloc X) fun e w' => e = .returned (.int .i64 2) ∧ w' = w5.alloc X) := fun X => by
    have := kept_any (HM6.out X)
    rw [cnt_n] at this
    exact this
  have HSy : Hid (∀ X, Calls Try.prog 13 #[.pointer (some ⟨m, 0, none⟩)] (w5.alloc X) fun e w' => e = .returned (.int .i64 1) ∧ w' = w5.alloc X) := fun X => strays_any (HM6.out X)
  have HLy : Hid (∀ X, Calls Try.prog 14 #[.pointer (some ⟨m, 0, none⟩)] (w5.alloc X) fun e w' => e = .returned (.int .i64 1) ∧ w' = w5.alloc X) := fun X => loads_any (HM6.out X)
  have HTy : Hid (∀ X, Calls Try.prog 15 #[.pointer (some ⟨m, 0, none⟩)] (w5.alloc X) fun e w' => e = .returned (.int .i64 1) ∧ w' = w5.alloc X) := fun X => stores_any (HM6.out X)
  clear HLo HLo2 HWh
  go_wp2_with (first | (go_at_call 12; refine (HKe.out _).mono ?_; rintro e w' ⟨rfl, rfl⟩) | (go_at_call 13; refine (HSy.out _).mono ?_; rintro e w' ⟨rfl, rfl⟩) | (go_at_call 14; refine (HLy.out _).mono ?_; rintro e w' ⟨rfl, rfl⟩) | (go_at_call 15; refine (HTy.out _).mono ?_; rintro e w' ⟨rfl, rfl⟩) | (refine wpList_eql_fault rfl _ _ rfl rfl rfl rfl ?_) | (refine wpList_eql_spot rfl _ _ rfl rfl rfl rfl ?_))
  go_ret
  have z0 := HB0.out.size
  have z1 := HB1.out.size
  have zm := HN1.out m (.inl rfl)
  have z2 := HK2.out.size
  have b1 : Below w.heap.size w w1 := HB0.out.trans (HB1.out.mono z0)
  have b2 : Below w.heap.size w1 w2 := HK2.out.below (by omega) (fun i _ hi => by
    rcases hi with rfl | hi
    · omega
    · have := HN1.out i (.inr (.inl hi)); omega)
  have b3 : Below w.heap.size w2 w3 := ((Keeps.alloc (S := fun j => j = m) w2 _).trans HK3.out (fun _ _ e => e)).below (by omega) (fun i _ hi => by omega)
  have b4 : Below w.heap.size w3 w4 := HBx.out.mono (by omega)
  have b5 : Below w.heap.size w4 w5 := HA4.out.below (by omega) (fun i _ hi => by omega)
  exact ⟨rfl, ((((b1.trans b2).trans b3).trans b4).trans b5).alloc (by have := b5.size; omega) _⟩
end Go.Proofs.Ytpokkbicchkfhaa
