/- What SpanAll asks of the books: Beyond of two, Within, Same of spans. Own work. -/
import Derived.Test.YtabgmlnlooiddaaSpManyU64
import Derived.Test.YtabgmlnlooiddaaSpWithU64
import Derived.Laws.StructEq
import Derived.Deep.RegionHeld3
namespace Go.Proofs.Ytabgmlnlooiddaa.U64
open Go.RowKit Go.Shelf Go.Proofs.Ytabgmlnlooiddaa.Sp
set_option maxHeartbeats 1000000 in
theorem beyond2_any (a b : Nat) (g cap : Nat) (w : World) (ha : a ≤ 9223372036854775807) (hb : b ≤ 9223372036854775807) (h0 : w.cell? ⟨g, 0, none⟩ = some (.int .i64 a)) (h1 : w.cell? ⟨g, 1, none⟩ = some (.int .i64 b)) :
    Calls Try.prog 4 #[.slice (some ⟨g, 0, none⟩) 2 cap] w fun e w' => e = .returned (.bool (decide (2147483647 < a + b))) ∧ w' = w := by
  have HC0 : Hid (w.cell? ⟨g, 0, none⟩ = some (.int .i64 a)) := h0
  have HC1 : Hid (w.cell? ⟨g, 1, none⟩ = some (.int .i64 b)) := h1
  clear h0 h1
  go_enter Try.func4, Try.ntmps4
  go_wp2
  go_loop [3, 4] (fun l i => (i = .int .i64 0 ∧ l = .int .i64 2147483647) ∨ (a ≤ 2147483647 ∧ i = .int .i64 1 ∧ l = .int .i64 (2147483647 - a)) ∨ (a + b ≤ 2147483647 ∧ i = .int .i64 2)) (fun _ i => 2 - (intOf i).toNat)
  case atStart => exact .inl ⟨rfl, rfl⟩
  case round =>
    rcases hrel with ⟨rfl, rfl⟩ | ⟨haa, rfl, rfl⟩ | ⟨hab, rfl⟩
    · have h0 := HC0.out
      by_cases haa : a ≤ 2147483647
      · go_wp2
        go_round
        case rel => exact .inr (.inl ⟨haa, rfl, rfl⟩)
        case measure => simp [intOf]
      · go_wp2
        go_ret
        exact ⟨by rw [decide_eq_true (by omega)]; rfl, rfl⟩
    · have h1 := HC1.out
      by_cases hab : a + b ≤ 2147483647
      · go_wp2
        go_round
        case rel => exact .inr (.inr ⟨hab, rfl⟩)
        case measure => simp [intOf]
      · go_wp2
        go_ret
        exact ⟨by rw [decide_eq_true (by omega)]; rfl, rfl⟩
    · go_wp2
      go_ret
      exact ⟨by rw [decide_eq_false (by omega)]; rfl, rfl⟩
theorem neq_span (w : World) (a b : Int) : (binOp .neq 35 (.agg #[.int .u64 a, .int .u64 b]) (.agg #[.int .u64 a, .int .u64 b])).run Try.prog w = .ok (.bool false) w := by
  have u := Try.underlying28
  have a2 := Try.isAgg28
  have z := Try.sizeOf28
  have hS : Try.prog.underlying 35 = some (.struct (Try.prog.fieldsOf 35)) := by kernel_rfl
  have hp : Try.prog.stoodInHeld 35 = false := by kernel_rfl
  rw [run_neq_struct, show (10000 : Nat) = 9999 + 1 from rfl, run_equalIn_agg w 9999 35 _ _ hS hp]
  simp only [Program.fieldsOf, Try.underlying35]
  go_simp
theorem guard_span : Try.prog.eqGuardType Try.prog.depth 35 = false := by kernel_rfl
theorem guard_spans (w : World) (x y : Operand) (a b c d : Value) : (eqGuard .neq 35 x y (.agg #[a, b]) (.agg #[c, d])).run Try.prog w = .ok () w := run_eqGuard_agg w _ _ _ _ _ _ guard_span
set_option maxRecDepth 100000 in
set_option maxHeartbeats 4000000 in
theorem ssame_yes {w : World} {u v : Value} {xs : List Sp} (hu : SV w u xs) (hv : SV w v xs) :
    Calls Try.prog 12 #[u, v] w fun e w' => e = .returned (.bool true) ∧ Below w.heap.size w w' := by
  have HU : Hid (∀ W, Below w.heap.size w W → SV W u xs) := fun W hW => hu.below hW (Nat.le_refl _)
  have HV : Hid (∀ W, Below w.heap.size w W → SV W v xs) := fun W hW => hv.below hW (Nat.le_refl _)
  obtain ⟨ao, cap, rfl, h1, h2, _, _, _⟩ := hu
  obtain ⟨bo, cap2, rfl, h3, h4, _, _, _⟩ := hv
  have hbig : xs.length ≤ 9223372036854775807 := by unfold maxLen at h2; omega
  have hne := neq_span
  have hgd := guard_spans
  clear h2 h4
  obtain ⟨N, hN⟩ : ∃ N, N = xs.length := ⟨_, rfl⟩
  rw [← hN] at h1 h3 hbig ⊢
  have HN : Hid (N = xs.length) := hN
  clear hN
  go_enter Try.func12, Try.ntmps12
  go_wp2_with fail
  go_loopw [5] (fun x wr => ∃ (i : Nat), i ≤ N ∧ x = .int .i64 (i : Int) ∧ Hid (Below w.heap.size w wr)) (fun x _ => match x with | .int _ z => N - z.toNat | _ => 0)
  case atStart => exact ⟨0, by omega, rfl, Below.refl _ _⟩
  case round =>
    obtain ⟨i, hi, rfl, HK⟩ := hrel
    by_cases hlt : i < N
    · have hx : i < xs.length := by have := HN.out; omega
      obtain ⟨ao', cap', e, _, _, _, _, k5⟩ := HU.out wr HK.out
      cases e
      obtain ⟨g, off, rfl, c0, c1⟩ := k5 i hx
      obtain ⟨bo', cap2', e, _, _, _, _, l5⟩ := HV.out wr HK.out
      cases e
      obtain ⟨g2, off2, rfl, d0, d1⟩ := l5 i hx
      generalize xs[i].1 = p at *
      generalize xs[i].2 = q at *
      clear k5 l5
      go_wp2_with fail
      go_region_held3 (fun w' => w'.cell? ⟨g, off + i * 2, none⟩ = some (.int .u64 p) ∧ w'.cell? ⟨g, off + i * 2 + 1, none⟩ = some (.int .u64 q) ∧ w'.cell? ⟨g2, off2 + i * 2, none⟩ = some (.int .u64 p) ∧ w'.cell? ⟨g2, off2 + i * 2 + 1, none⟩ = some (.int .u64 q)) (go_keep) (fail)
      go_wp2_with fail
      go_roundw
      case rel => exact ⟨i + 1, by omega, by go_num, HK.out.drew⟩
      case measure => simp; omega
    · obtain rfl : i = N := by omega
      go_wp2_with fail
      go_ret
      exact ⟨rfl, HK.out⟩
set_option maxHeartbeats 2000000 in
theorem within1_any {n : Int} {hi : Nat} (h1 : 1 ≤ hi) (h2 : hi ≤ 4294967296) (w : World) :
    Calls Try.prog 7 #[.int .i64 n, .int .i64 1, .int .i64 (hi : Int)] w fun e w' => ∃ k : Nat, e = .returned (.int .i64 (k : Int)) ∧ 1 ≤ k ∧ k ≤ hi ∧ w' = w := by
  obtain ⟨q, hq⟩ : ∃ q, q = n.tmod (hi : Int) := ⟨_, rfl⟩
  have hq1 : -(hi : Int) < q ∧ q < (hi : Int) := by
    have := Int.tmod_lt_of_pos n (b := (hi : Int)) (by omega)
    have := Int.lt_tmod_of_pos n (b := (hi : Int)) (by omega)
    omega
  have hne : (hi : Int) ≠ 0 := by omega
  have hs : (hi : Int) - 1 + 1 = (hi : Int) := by omega
  go_enter Try.func7, Try.ntmps7
  go_wp2_with fail
  all_goals (go_ret; rw [← hq] at *)
  · exact ⟨(1 + (q + hi)).toNat, by rw [Int.toNat_of_nonneg (by omega)]; rfl, by omega, by omega, rfl⟩
  · exact ⟨(1 + q).toNat, by rw [Int.toNat_of_nonneg (by omega)]; rfl, by omega, by omega, rfl⟩
end Go.Proofs.Ytabgmlnlooiddaa.U64
