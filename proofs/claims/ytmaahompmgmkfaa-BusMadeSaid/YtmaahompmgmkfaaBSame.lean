/- Same of two rows of ranges; sameBus. Own work. -/
import Derived.Test.YtmaahompmgmkfaaBClone
import Derived.Laws.StructEq
import Derived.Deep.RegionHeld3
namespace Go.Proofs.Ytmaahompmgmkfaa
open Go.RowKit Go.Maps Go.Proofs.Ytmaahompmgmkfaa.Sp
theorem neq_range (w : World) (a b : Int) : (binOp .neq 31 (.agg #[.int .u64 a, .int .u64 b]) (.agg #[.int .u64 a, .int .u64 b])).run Try.prog w = .ok (.bool false) w := by
  have u := Try.underlying25
  have a2 := Try.isAgg25
  have z := Try.sizeOf25
  have hS : Try.prog.underlying 31 = some (.struct (Try.prog.fieldsOf 31)) := by kernel_rfl
  have hp : Try.prog.stoodInHeld 31 = false := by kernel_rfl
  rw [run_neq_struct, show (10000 : Nat) = 9999 + 1 from rfl, run_equalIn_agg w 9999 31 _ _ hS hp]
  simp only [Program.fieldsOf, Try.underlying31]
  go_simp
theorem guard_range : Try.prog.eqGuardType Try.prog.depth 31 = false := by kernel_rfl
theorem guard_ranges (w : World) (x y : Operand) (a b c d : Value) : (eqGuard .neq 31 x y (.agg #[a, b]) (.agg #[c, d])).run Try.prog w = .ok () w := run_eqGuard_agg w _ _ _ _ _ _ guard_range
set_option maxRecDepth 100000 in
set_option maxHeartbeats 4000000 in
theorem rsame_yes {w : World} {u v : Value} {xs : List Sp} (hu : U64.SV w u xs) (hv : U64.SV w v xs) :
    Calls Try.prog 24 #[u, v] w fun e w' => e = .returned (.bool true) ∧ Below w.heap.size w w' := by
  have HU : Hid (∀ W, Below w.heap.size w W → U64.SV W u xs) := fun W hW => hu.below hW (Nat.le_refl _)
  have HV : Hid (∀ W, Below w.heap.size w W → U64.SV W v xs) := fun W hW => hv.below hW (Nat.le_refl _)
  obtain ⟨ao, cap, rfl, h1, h2, _, _, _⟩ := hu
  obtain ⟨bo, cap2, rfl, h3, h4, _, _, _⟩ := hv
  have hbig : xs.length ≤ 9223372036854775807 := by unfold maxLen at h2; omega
  have hne := neq_range
  have hgd := guard_ranges
  clear h2 h4
  obtain ⟨N, hN⟩ : ∃ N, N = xs.length := ⟨_, rfl⟩
  rw [← hN] at h1 h3 hbig ⊢
  have HN : Hid (N = xs.length) := hN
  clear hN
  go_enter Try.func24, Try.ntmps24
  go_wp2_with fail
  go_loopw [5] (fun x wr => ∃ (i : Nat), i ≤ N ∧ x = .int .i64 (i : Int) ∧ Hid (Below w.heap.size w wr)) (fun x _ => match x with | .int _ z => N - z.toNat | _ => 0)
  case atStart => exact ⟨0, by omega, rfl, Below.refl _ _⟩
  case round =>
    obtain ⟨i, hi, rfl, HK⟩ := hrel
    by_cases hlt : i < N
    · have hx : i < xs.length := by have := HN.out; omega
      obtain ⟨ao', cap', e, _, _, _, _, k5⟩ := HU.out wr HK.out
      cases e
      obtain ⟨g, off, rfl, c0, c1⟩ := k5 i hx
      obtain ⟨bo', cap2', e, _, _, _, _, l5⟩ := HV.out wr HK.out
      cases e
      obtain ⟨g2, off2, rfl, d0, d1⟩ := l5 i hx
      generalize xs[i].1 = p at *
      generalize xs[i].2 = q at *
      clear k5 l5
      go_wp2_with fail
      go_region_held3 (fun w' => w'.cell? ⟨g, off + i * 2, none⟩ = some (.int .u64 p) ∧ w'.cell? ⟨g, off + i * 2 + 1, none⟩ = some (.int .u64 q) ∧ w'.cell? ⟨g2, off2 + i * 2, none⟩ = some (.int .u64 p) ∧ w'.cell? ⟨g2, off2 + i * 2 + 1, none⟩ = some (.int .u64 q)) (go_keep) (fail)
      go_wp2_with fail
      go_roundw
      case rel => exact ⟨i + 1, by omega, by go_num, HK.out.drew⟩
      case measure => simp; omega
    · obtain rfl : i = N := by omega
      go_wp2_with fail
      go_ret
      exact ⟨rfl, HK.out⟩
set_option maxRecDepth 100000 in
set_option maxHeartbeats 4000000 in
theorem sameBus_yes {w : World} {u1 u2 v1 v2 : Value} {rs ds : List Sp} (h1 : U64.SV w u1 rs) (h2 : U64.SV w u2 ds) (h3 : U64.SV w v1 rs) (h4 : U64.SV w v2 ds) :
    Calls Try.prog 13 #[.agg #[u1, u2], .agg #[v1, v2]] w fun e w' => e = .returned (.bool true) ∧ Below w.heap.size w w' := by
  have HA : Hid (∀ W, Below w.heap.size w W → Calls Try.prog 24 #[u1, v1] W fun e w' => e = .returned (.bool true) ∧ Below W.heap.size W w') := fun W hW => rsame_yes (h1.below hW (Nat.le_refl _)) (h3.below hW (Nat.le_refl _))
  have HB : Hid (∀ W, Below w.heap.size w W → Calls Try.prog 24 #[u2, v2] W fun e w' => e = .returned (.bool true) ∧ Below W.heap.size W w') := fun W hW => rsame_yes (h2.below hW (Nat.le_refl _)) (h4.below hW (Nat.le_refl _))
  clear h1 h2 h3 h4
  go_enter Try.func13, Try.ntmps13
  go_wp2_with fail
  have hb0 : Below w.heap.size w ((w.alloc (Obj.cells #[u1, u2] 24)).alloc (Obj.cells #[v1, v2] 24)) := ((Below.refl _ _).alloc (Nat.le_refl _) _).alloc (by simp) _
  refine (HA.out _ hb0).mono ?_
  rintro e w1 ⟨rfl, hb1⟩
  have hx : BoxB ((w.alloc (Obj.cells #[u1, u2] 24)).alloc (Obj.cells #[v1, v2] 24)) w.heap.size u1 u2 := (show BoxB (w.alloc (Obj.cells #[u1, u2] 24)) w.heap.size u1 u2 from heap_alloc_new w _).below ((Below.refl _ _).alloc (Nat.le_refl _) _)
  have hy : BoxB ((w.alloc (Obj.cells #[u1, u2] 24)).alloc (Obj.cells #[v1, v2] 24)) (w.heap.size + 1) v1 v2 := heap_alloc_newN (by simp) _
  obtain ⟨_, x1, _⟩ := (hx.below hb1).cells
  obtain ⟨_, y1, _⟩ := (hy.below hb1).cells
  have HB1 : Hid (Below w.heap.size w w1) := hb0.trans (hb1.mono hb0.size)
  clear hb0 hb1 hx hy HA
  go_wp2_with fail
  refine (HB.out _ HB1.out).mono ?_
  rintro e w2 ⟨rfl, hb2⟩
  have HB2 : Hid (Below w.heap.size w w2) := HB1.out.trans (hb2.mono HB1.out.size)
  clear hb2
  go_wp2_with fail
  go_ret
  exact ⟨rfl, HB2.out⟩
end Go.Proofs.Ytmaahompmgmkfaa
