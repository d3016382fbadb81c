/- Bundle: Same of two rows of bytes, exactly (written by parts/gen_bnsb.py). Own work. -/
import Derived.Test.YtinjhgimhboigaaDoorBnSpl
namespace Go.Proofs.YtinjhgimhboigaaDoor
open Go.RowKit Bn
set_option linter.unusedVariables false
set_option linter.unusedSimpArgs false
def ubE (z : Nat) : List Value := [.int .u8 (z : Int)]
set_option maxRecDepth 100000 in
set_option maxHeartbeats 8000000 in
theorem sameBytesX {w : World} {u v : Value} {xs ys : List Nat} (hu : RowG 1 ubE w u xs) (hv : RowG 1 ubE w v ys) : Calls Tryd.prog 6 #[u, v] w (YN (xs = ys) w) := by
  have HU := Lib.hid hu
  have HV := Lib.hid hv
  obtain ⟨ao, cap, rfl, h1, h2, _⟩ := hu
  obtain ⟨bo, bap, rfl, g1, g2, _⟩ := hv
  unfold maxLen at h2 g2
  obtain ⟨n, hn⟩ : ∃ n, xs.length = n := ⟨_, rfl⟩
  obtain ⟨m, hm⟩ : ∃ m, ys.length = m := ⟨_, rfl⟩
  have HN := Lib.hid hn
  have HM := Lib.hid hm
  rw [hn] at h1 HU ⊢
  rw [hm] at g1 HV ⊢
  clear hn hm
  have HB0 : Hid (Below w.heap.size w w) := Below.refl _ _
  by_cases hnm : n = m
  · subst hnm
    go_enter Tryd.func6, Tryd.ntmps6
    go_wp2_with fail
    go_loopw [5] (fun iv wr => ∃ i : Nat, i ≤ n ∧ iv = .int .i64 (i : Int) ∧ Hid (∀ j (h1 : j < xs.length) (h2 : j < ys.length), j < i → xs[j] = ys[j]) ∧ Hid (Below w.heap.size w wr)) (fun iv _ => n - (intOf iv).toNat)
    case atStart => exact ⟨0, by omega, rfl, (fun j _ _ h => absurd h (Nat.not_lt_zero _)), HB0⟩
    clear HB0
    obtain ⟨i, hi, rfl, HEq, HB⟩ := hrel
    by_cases hin : i < n
    · have ji : (i : Int) < (n : Int) := by omega
      have hix : i < xs.length := by rw [HN.out]; exact hin
      have hiy : i < ys.length := by rw [HM.out]; exact hin
      have hw1 : IntKind.i64.wrap ((i : Int) + 1) = ((i + 1 : Nat) : Int) := by rw [IntKind.wrap_i64]; omega
      obtain ⟨_, _, e', _, _, hc⟩ := HU.out.below HB.out
      simp only [Value.slice.injEq] at e'
      obtain ⟨rfl, e9, rfl⟩ := e'
      clear e9
      obtain ⟨b, of, rfl, _, hc⟩ := hc i hix
      obtain ⟨_, _, e', _, _, hd⟩ := HV.out.below HB.out
      simp only [Value.slice.injEq] at e'
      obtain ⟨rfl, e9, rfl⟩ := e'
      clear e9
      obtain ⟨b', of', rfl, _, hd⟩ := hd i hiy
      have HNx : Hid (xs[i] = ys[i] → ∀ j (h1 : j < xs.length) (h2 : j < ys.length), j < i + 1 → xs[j] = ys[j]) := fun e j h1 h2 h3 => by
        by_cases h : j = i
        · subst h; exact e
        · exact HEq.out j h1 h2 (by omega)
      have HNo : Hid (xs[i] ≠ ys[i] → ¬ xs = ys) := fun e h => e (list_at h _ _)
      generalize xs[i] = x at *
      generalize ys[i] = y at *
      have c1 : wr.cell? ⟨b, of + i, none⟩ = some (.int .u8 (x : Int)) := by
        have := hc 0 (by decide)
        rw [Nat.mul_one, Nat.add_zero] at this
        exact this
      have c2 : wr.cell? ⟨b', of' + i, none⟩ = some (.int .u8 (y : Int)) := by
        have := hd 0 (by decide)
        rw [Nat.mul_one, Nat.add_zero] at this
        exact this
      clear hc hd
      by_cases hxy : x = y
      · subst hxy
        have HNz := Lib.hid (HNx.out rfl)
        go_upto_region 6 with fail
        go_quiet (fail)
        have HB1 : Hid (Below w.heap.size w (wr.drewN nq)) := HB.out.trans ⟨rfl, rfl, rfl, Nat.le_refl _, fun _ _ => rfl⟩
        clear HB c1 c2
        generalize (wr.drewN nq) = W1 at *
        go_wp2_with fail
        go_roundw
        case rel => exact ⟨i + 1, by omega, rfl, HNz, HB1⟩
        case measure => simp [intOf]; omega
      · have HNz := Lib.hid (HNo.out hxy)
        have jx : ¬ (x : Int) = (y : Int) := by omega
        go_upto_region 6 with fail
        go_quiet (fail)
        have HB1 : Hid (Below w.heap.size w (wr.drewN nq)) := HB.out.trans ⟨rfl, rfl, rfl, Nat.le_refl _, fun _ _ => rfl⟩
        clear HB c1 c2
        generalize (wr.drewN nq) = W1 at *
        go_wp2_with fail
        go_ret
        exact YN.no HNz.out HB1.out
    · have ji : ¬ (i : Int) < (n : Int) := by omega
      have HFin : Hid (xs = ys) := list_eq_of (by rw [HN.out, HM.out]) (fun j h1 h2 => HEq.out j h1 h2 (by rw [HN.out] at h1; omega))
      go_wp2_with fail
      go_ret
      exact YN.yes HFin.out HB.out
  · have jn : ¬ (n : Int) = (m : Int) := by omega
    have HNe : Hid (¬ xs = ys) := fun h => hnm (by rw [← HN.out, ← HM.out, h])
    go_enter Tryd.func6, Tryd.ntmps6
    go_wp2_with fail
    go_ret
    exact YN.no HNe.out HB0.out
end Go.Proofs.YtinjhgimhboigaaDoor
