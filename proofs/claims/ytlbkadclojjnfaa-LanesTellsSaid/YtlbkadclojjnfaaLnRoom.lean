/- Lanes: Roomy, Same, Intact of stints, walked. Own work. -/
import Derived.Test.YtlbkadclojjnfaaLnBk
import Derived.Deep.RegionLaw
namespace Go.Proofs.Ytlbkadclojjnfaa
open Go.RowKit
/-- a row with 80 more places, of which k bear the mark -/
def fill2 (p : List (Int × Int)) (k : Nat) : List (Int × Int) := p ++ (List.replicate k (0, -9) ++ List.replicate (80 - k) (0, 0))
def room2 (p : List (Int × Int)) : List (Int × Int) := p ++ List.replicate 80 (0, -9)
theorem fill2_len (p : List (Int × Int)) (k : Nat) (hk : k ≤ 80) : (fill2 p k).length = p.length + 80 := by simp [fill2]; omega
theorem room2_len (p : List (Int × Int)) : (room2 p).length = p.length + 80 := by rw [room2, List.length_append, List.length_replicate]
theorem fill2_set (p : List (Int × Int)) (k : Nat) (hk : k < 80) : (fill2 p k).set (p.length + k) (0, -9) = fill2 p (k + 1) := by
  unfold fill2
  rw [List.set_append_right _ _ (by omega), Nat.add_sub_cancel_left, List.set_append_right _ _ (by simp), List.length_replicate, Nat.sub_self, show 80 - k = (80 - (k + 1)) + 1 by omega, List.replicate_succ, List.set_cons_zero, List.replicate_succ', List.append_assoc]
  rfl
theorem fill2_end (p : List (Int × Int)) : fill2 p 80 = room2 p := by simp only [fill2, room2, Nat.sub_self, List.replicate_zero, List.append_nil]
theorem made2 {w : World} {base g n : Nat} (h : w.ownsRow base 47 2 (.slice (some ⟨g, 0, none⟩) n n) n (madeCells #[Value.int .i64 0, .int .i64 0] (n * 2)).toList) : Row2 w g (List.replicate n (0, 0)) := by
  rcases h.2 with ⟨hc, _⟩ | ⟨g', cap, cur, hv, _, hg, _, _, hs, ht⟩
  · cases hc
  · cases hv
    unfold Row2
    rw [hg]
    have e : cur.toList = enc2s (List.replicate n (0, 0)) := by
      rw [List.take_of_length_le (by simp [hs])] at ht
      rw [ht]
      apply List.ext_getElem?
      intro j
      by_cases hj : j < n * 2
      · rw [show j = j / 2 * 2 + j % 2 by omega, enc2s_get _ (j / 2) (j % 2) (by rw [List.length_replicate]; omega) (by omega), List.getElem_replicate]
        rw [Array.getElem?_toList]
        have hj' : j / 2 * 2 + j % 2 < (madeCells #[Value.int .i64 0, .int .i64 0] (n * 2)).size := by rw [size_madeCells]; omega
        rw [Array.getElem?_eq_getElem hj']
        have : (madeCells #[Value.int .i64 0, .int .i64 0] (n * 2))[j / 2 * 2 + j % 2] = .int .i64 0 := by
          simp only [madeCells, Array.getElem_map, Array.getElem_range]
          have h2 : (#[Value.int .i64 0, .int .i64 0] : Array Value).size = 2 := rfl
          rw [h2]
          rcases (by omega : (j / 2 * 2 + j % 2) % 2 = 0 ∨ (j / 2 * 2 + j % 2) % 2 = 1) with e | e <;> rw [e] <;> rfl
        rw [this]
        rcases (by omega : j % 2 = 0 ∨ j % 2 = 1) with e | e <;> rw [e] <;> rfl
      · rw [List.getElem?_eq_none (by rw [Array.length_toList, size_madeCells]; omega), List.getElem?_eq_none (by rw [enc2s_length, List.length_replicate]; omega)]
    rw [← e]
set_option maxRecDepth 100000 in
set_option maxHeartbeats 4000000 in
theorem roomy2_any {v : Value} {p : List (Int × Int)} {w : World} (hv : Rd2 w v p) (hp : p.length ≤ 8796093022000) :
    Calls Try.prog 21 #[v, .agg #[.int .i64 0, .int .i64 (-9)]] w fun e w' => ∃ g, w.heap.size ≤ g ∧ e = .returned (.slice (some ⟨g, 0, none⟩) (p.length + 80) (p.length + 80)) ∧ Row2 w' g (room2 p) ∧ Below w.heap.size w w' := by
  obtain ⟨i, hi, hz0, hz1, hz2⟩ := info_parts info_st
  have HV := Lib.hid hv
  obtain ⟨ao, cap, rfl, h1, h2, _⟩ := hv
  unfold maxLen at h2
  go_enter Try.func21, Try.ntmps21
  go_wp2_with (at_make; refine wpList_make_full _ rfl _ _ 44 rfl w.heap.size 47 i (.agg #[.int .i64 0, .int .i64 0]) 2 Try.underlying44 hi hz0 hz1 _ _ _ _ (p.length + 80) rfl rfl (by omega) (by omega) (by rw [hz2]; omega) (by simp only [maxLen]; omega) (by simp) ?_)
  intro w1 hown hgrow
  have hb1 : Below w.heap.size w w1 := ((Below.refl _ _).alloc (Nat.le_refl _) _).grown hgrow (by simp) (by simp)
  have hmk : w1.heap[w.heap.size]? = some (.cells #[.int .i64 0, .int .i64 (-9)] 47 (0, 0)) := (hgrow.block w.heap.size (by simp) (by simp)).trans (Array.getElem?_push_size (xs := w.heap))
  have hr1 : Row2 w1 (w.heap.size + 1) (List.replicate (p.length + 80) (0, 0)) := made2 hown
  have HR1 := Lib.hid hr1
  have HMk := Lib.hid hmk
  have HV1 := Lib.hid (HV.out.below hb1)
  have HB1 := Lib.hid hb1
  clear hown hgrow hr1 hmk hb1 hi hz0 hz1 hz2
  go_wp2_with (refine wpList_copy2 rfl (.tmp 11) (.tmp 12) rfl (m := 80) rfl rfl HR1.out HV1.out ?_)
  intro w2 HR2 HK2
  have HB2 : Hid (Below w.heap.size w w2) := HB1.out.trans (HK2.out.below HB1.out.size (fun k _ e => by omega))
  have HM2 : Hid (w2.heap[w.heap.size]? = some (.cells #[.int .i64 0, .int .i64 (-9)] 47 (0, 0))) := (HK2.out.block w.heap.size (Array.getElem?_eq_some_iff.1 HMk.out).1 (by omega)).trans HMk.out
  have HF2 : Hid (Row2 w2 (w.heap.size + 1) (fill2 p 0)) := HR2.out
  clear HR2 HK2 HR1 HMk HV1 HB1
  go_wp2_with fail
  go_loopw [6] (fun iv wr => ∃ k : Nat, k ≤ 80 ∧ iv = .int .i64 ((p.length + k : Nat) : Int) ∧ Hid (Row2 wr (w.heap.size + 1) (fill2 p k)) ∧ Hid (wr.heap[w.heap.size]? = some (.cells #[.int .i64 0, .int .i64 (-9)] 47 (0, 0))) ∧ Hid (Below w.heap.size w wr)) (fun iv _ => p.length + 80 - (intOf iv).toNat)
  case atStart => exact ⟨0, by omega, rfl, HF2, HM2, HB2⟩
  case round =>
    clear HF2 HM2 HB2
    obtain ⟨k, hk, rfl, HF, HM, HB⟩ := hrel
    by_cases hlt : k < 80
    · have hl := fill2_len p k hk
      obtain ⟨j, hj⟩ : ∃ j, p.length + k = j := ⟨_, rfl⟩
      have c0 := HF.out.cell j 0 (by omega) (by omega)
      have c1 := HF.out.cell j 1 (by omega) (by omega)
      simp only [enc2, List.getElem?_cons_zero, List.getElem?_cons_succ, Nat.add_zero] at c0 c1
      have f0 : wr.frozen? ⟨w.heap.size + 1, j * 2, none⟩ = false := by simp [World.frozen?, show wr.heap[w.heap.size + 1]? = _ from HF.out]
      have f1 : wr.frozen? ⟨w.heap.size + 1, j * 2 + 1, none⟩ = false := by simp [World.frozen?, show wr.heap[w.heap.size + 1]? = _ from HF.out]
      have m0 : wr.cell? ⟨w.heap.size, 0, none⟩ = some (.int .i64 0) := by rw [cell_of_row _ _ _ _ _ _ HM.out]; rfl
      have m1 : wr.cell? ⟨w.heap.size, 1, none⟩ = some (.int .i64 (-9)) := by rw [cell_of_row _ _ _ _ _ _ HM.out]; rfl
      have HS := Lib.hid (HF.out.set j (by omega) (0, -9))
      have HSe : Hid ((fill2 p k).set j (0, -9) = fill2 p (k + 1)) := by
        show _ = _
        rw [← hj]
        exact fill2_set p k hlt
      have ji : (j : Int) < (p.length : Int) + 80 := by omega
      have jn : j < p.length + 80 := by omega
      have hw1 : IntKind.i64.wrap ((j : Int) + 1) = ((j + 1 : Nat) : Int) := by rw [IntKind.wrap_i64]; omega
      have HJ : Hid (p.length + k = j) := hj
      rw [hj]
      generalize (fill2 p k)[j]'(by omega) = y at *
      clear hj hl
      go_wp2_with fail
      go_roundw
      case rel =>
        refine ⟨k + 1, by omega, by have := HJ.out; congr 1; omega, ?_, ?_, (HB.out.setCell (Nat.le_succ _) _).setCell (Nat.le_succ _) _⟩
        · have h := HS.out
          rw [HSe.out] at h
          exact h
        · exact (Below.heap_setCell _ _ _ _ (by simp)).trans ((Below.heap_setCell _ _ _ _ (by simp)).trans HM.out)
      case measure => simp [intOf]; omega
    · obtain rfl : k = 80 := by omega
      go_wp2_with fail
      go_ret
      refine ⟨w.heap.size + 1, by omega, rfl, ?_, HB.out⟩
      have h := HF.out
      rw [fill2_end] at h
      exact h
/-- two stints that are the same -/
theorem eq_st (w : World) (a b : Int) : (Op.equalIn 10000 47 (.agg #[.int .i64 a, .int .i64 b]) (.agg #[.int .i64 a, .int .i64 b])).run Try.prog w = .ok true w := by
  have u1 := Try.underlying3
  have a1 := Try.isAgg3
  have z1 := Try.sizeOf3
  have hS : Try.prog.underlying 47 = some (.struct (Try.prog.fieldsOf 47)) := by kernel_rfl
  have hp : Try.prog.stoodInHeld 47 = false := by kernel_rfl
  rw [show (10000 : Nat) = 9999 + 1 from rfl, run_equalIn_agg w 9999 47 _ _ hS hp]
  simp only [Program.fieldsOf, Try.underlying47]
  go_simp
theorem guard_st : Try.prog.eqGuardType Try.prog.depth 47 = false := by kernel_rfl
theorem neq_st (w : World) (a b : Int) : (binOp .neq 47 (.agg #[.int .i64 a, .int .i64 b]) (.agg #[.int .i64 a, .int .i64 b])).run Try.prog w = .ok (.bool false) w := by
  rw [run_neq_struct, eq_st]
  rfl
theorem step_neq_st {w : World} {ops : Array Oper} {o : Oper} {a : Act} {K : Act → World → Prop} {Q : Exit → Act → World → Prop} {E : Prop} (b c : Int) (hw : Region.wanted o (yielded ops a.tmps) = true) (x y : Operand) {t' : TypeId} (ho : o.op = .binOp .neq 47 x y t')
    (hx : a.eval x = .agg #[.int .i64 b, .int .i64 c]) (hy : a.eval y = .agg #[.int .i64 b, .int .i64 c]) (h : K (a.put o.dst (.bool false)) w) : if Region.wanted o (yielded ops a.tmps) = true then Oper.wp Try.prog o a w K Q else E := by
  rw [if_pos hw]
  unfold Oper.wp execOp
  have hg : (eqGuard .neq 47 x y (.agg #[.int .i64 b, .int .i64 c]) (.agg #[.int .i64 b, .int .i64 c])).run Try.prog w = .ok () w := run_eqGuard_agg w _ _ _ _ _ _ guard_st
  simp only [ho, hx, hy, Sem.run_bind, Sem.run_pure, Result.andThen_ok, hg, neq_st]
  exact h
set_option maxRecDepth 100000 in
set_option maxHeartbeats 4000000 in
theorem same2_any {u v : Value} {xs : List (Int × Int)} {w : World} (hu : Rd2 w u xs) (hv : Rd2 w v xs) :
    Calls Try.prog 38 #[u, v] w fun e w' => e = .returned (.bool true) ∧ Below w.heap.size w w' := by
  have HU := Lib.hid hu
  have HV := Lib.hid hv
  obtain ⟨ao, c1, rfl, h1, h2, _⟩ := hu
  obtain ⟨ao2, c2, rfl, h3, h4, _⟩ := hv
  unfold maxLen at h2 h4
  obtain ⟨n, hn⟩ : ∃ n, xs.length = n := ⟨_, rfl⟩
  rw [hn] at h1 h3 ⊢
  have HN := Lib.hid hn
  clear hn
  go_enter Try.func38, Try.ntmps38
  go_wp2_with fail
  go_loopw [5] (fun iv wr => ∃ k : Nat, k ≤ n ∧ iv = .int .i64 (k : Int) ∧ Hid (Below w.heap.size w wr)) (fun iv _ => n - (intOf iv).toNat)
  case atStart => exact ⟨0, Nat.zero_le _, rfl, Below.refl _ _⟩
  case round =>
    obtain ⟨k, hk, rfl, HB⟩ := hrel
    by_cases hlt : k < n
    · have hkx : k < xs.length := by rw [HN.out]; exact hlt
      have ji : (k : Int) < (n : Int) := by omega
      have hw1 : IntKind.i64.wrap ((k : Int) + 1) = ((k + 1 : Nat) : Int) := by rw [IntKind.wrap_i64]; omega
      obtain ⟨_, _, e1, _, _, _, hc1⟩ := HU.out.below HB.out
      obtain ⟨_, _, e2, _, _, _, hc2⟩ := HV.out.below HB.out
      simp only [Value.slice.injEq] at e1 e2
      obtain ⟨rfl, _, rfl⟩ := e1
      obtain ⟨rfl, _, rfl⟩ := e2
      obtain ⟨b1, o1, rfl, q0, q1⟩ := hc1 k hkx
      obtain ⟨b2, o2, rfl, p0, p1⟩ := hc2 k hkx
      clear hc1 hc2
      generalize xs[k] = x at *
      obtain ⟨s, t⟩ := x
      simp only at q0 q1 p0 p1
      go_wp2_with fail
      go_region_law (refine step_neq_st s t (by kernel_rfl) (.tmp 20) (.tmp 24) (by rfl) (by rfl) (by rfl) ?_)
      all_goals
        go_wp2_with fail
        go_roundw
        case rel => exact ⟨k + 1, by omega, rfl, by repeat (first | exact HB.out | refine Below.drew ?_)⟩
        case measure => simp [intOf]; omega
    · go_wp2_with fail
      go_ret
      exact ⟨rfl, HB.out⟩
end Go.Proofs.Ytlbkadclojjnfaa
