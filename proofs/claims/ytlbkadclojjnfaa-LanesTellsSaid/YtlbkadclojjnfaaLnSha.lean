/- Lanes: Share, the package's and the document's. Own work. -/
import Derived.Test.YtlbkadclojjnfaaLnSch
import Derived.Test.YtlbkadclojjnfaaLnBud
import Derived.Test.YtlbkadclojjnfaaLnFl
namespace Go.Proofs.Ytlbkadclojjnfaa
open Go.RowKit
theorem rowF_top : ∀ (l : List S3) (e : Int) (p : Option ByteArray), e ≤ 9223372036854775807 → (∀ x ∈ l, I64 x) → rowF e p l ≤ 9223372036854775807
  | [], e, p, he, _ => by unfold rowF; exact he
  | x :: r, e, p, he, hx => by
    unfold rowF
    split
    · decide
    · exact rowF_top r x.t _ (hx x (by simp)).2.2.2 (fun y hy => hx y (by simp [hy]))
set_option maxRecDepth 100000 in
set_option maxHeartbeats 400000 in
theorem share_zero {w : World} {v : Value} {s : ByteArray} (hl : Calls Try.prog 36 #[v] w fun e w' => e = .returned (.int .i64 0) ∧ Below w.heap.size w w') : Calls Try.prog 18 #[v, .string s] w fun e w' => e = .returned (.float .f64 0) ∧ Below w.heap.size w w' := by
  have HL := Lib.hid hl
  clear hl
  go_enter Try.func18, Try.ntmps18
  go_wp2_with fail
  refine HL.out.mono ?_
  rintro e w1 ⟨rfl, hb1⟩
  have HB1 := Lib.hid hb1
  clear hb1 HL
  go_wp2_with fail
  go_ret
  exact ⟨rfl, HB1.out⟩
set_option maxRecDepth 100000 in
set_option maxHeartbeats 400000 in
theorem share_pos {w : World} {v : Value} {s : ByteArray} {R b : Int} {r : Nat} (hl : Calls Try.prog 36 #[v] w fun e w' => e = .returned (.int .i64 R) ∧ Below w.heap.size w w') (hbu : ∀ W, Below w.heap.size w W → Calls Try.prog 16 #[v, .string s] W fun e w' => e = .returned (.int .i64 b) ∧ Below W.heap.size W w') (hR : R ≠ 0) (hq : floatBits .quo .f64 (floatOfInt .f64 b) (floatOfInt .f64 R) = some r) : Calls Try.prog 18 #[v, .string s] w fun e w' => e = .returned (.float .f64 r) ∧ Below w.heap.size w w' := by
  have HL := Lib.hid hl
  have HBu := Lib.hid hbu
  have hr : ∀ W, (binOp .quo 40 (.float .f64 (floatOfInt .f64 b)) (.float .f64 (floatOfInt .f64 R))).run Try.prog W = .ok (.float .f64 r) W := fun W => run_float_arith W .quo 40 .f64 _ _ _ hq
  clear hl hbu hq
  go_enter Try.func18, Try.ntmps18
  go_wp2_with fail
  refine HL.out.mono ?_
  rintro e w1 ⟨rfl, hb1⟩
  have HB1 := Lib.hid hb1
  clear hb1 HL
  go_wp2_with fail
  refine (HBu.out _ HB1.out).mono ?_
  rintro e w2 ⟨rfl, hb2⟩
  have HB2 : Hid (Below w.heap.size w w2) := HB1.out.trans (hb2.mono HB1.out.size)
  clear hb2
  go_wp2_with fail
  go_ret
  exact ⟨rfl, HB2.out⟩
set_option maxRecDepth 100000 in
set_option maxHeartbeats 400000 in
theorem rShare_zero {w : World} {v : Value} {s : ByteArray} (hl : Calls Try.prog 37 #[v] w fun e w' => e = .returned (.int .i64 0) ∧ Below w.heap.size w w') : Calls Try.prog 19 #[v, .string s] w fun e w' => e = .returned (.float .f64 0) ∧ Below w.heap.size w w' := by
  have HL := Lib.hid hl
  clear hl
  go_enter Try.func19, Try.ntmps19
  go_wp2_with fail
  refine HL.out.mono ?_
  rintro e w1 ⟨rfl, hb1⟩
  have HB1 := Lib.hid hb1
  clear hb1 HL
  go_wp2_with fail
  go_ret
  exact ⟨rfl, HB1.out⟩
set_option maxRecDepth 100000 in
set_option maxHeartbeats 400000 in
theorem rShare_pos {w : World} {v : Value} {s : ByteArray} {R b : Int} {r : Nat} (hl : Calls Try.prog 37 #[v] w fun e w' => e = .returned (.int .i64 R) ∧ Below w.heap.size w w') (hbu : ∀ W, Below w.heap.size w W → Calls Try.prog 17 #[v, .string s] W fun e w' => e = .returned (.int .i64 b) ∧ Below W.heap.size W w') (hR : R ≠ 0) (hq : floatBits .quo .f64 (floatOfInt .f64 b) (floatOfInt .f64 R) = some r) : Calls Try.prog 19 #[v, .string s] w fun e w' => e = .returned (.float .f64 r) ∧ Below w.heap.size w w' := by
  have HL := Lib.hid hl
  have HBu := Lib.hid hbu
  have hr : ∀ W, (binOp .quo 40 (.float .f64 (floatOfInt .f64 b)) (.float .f64 (floatOfInt .f64 R))).run Try.prog W = .ok (.float .f64 r) W := fun W => run_float_arith W .quo 40 .f64 _ _ _ hq
  clear hl hbu hq
  go_enter Try.func19, Try.ntmps19
  go_wp2_with fail
  refine HL.out.mono ?_
  rintro e w1 ⟨rfl, hb1⟩
  have HB1 := Lib.hid hb1
  clear hb1 HL
  go_wp2_with fail
  refine (HBu.out _ HB1.out).mono ?_
  rintro e w2 ⟨rfl, hb2⟩
  have HB2 : Hid (Below w.heap.size w w2) := HB1.out.trans (hb2.mono HB1.out.size)
  clear hb2
  go_wp2_with fail
  go_ret
  exact ⟨rfl, HB2.out⟩
theorem order_zero : Ieee.double.order 0 0 = some .eq := by decide
theorem shares (xs : List S3) (s : ByteArray) (hp : xs.length ≤ 4398046511000) (hx : ∀ x ∈ xs, I64 x) : ∃ r, Ieee.double.order r r = some .eq ∧ (∀ W v, Rs W v xs → Calls Try.prog 18 #[v, .string s] W fun e w' => e = .returned (.float .f64 r) ∧ Below W.heap.size W w') ∧ ∀ W v, Rs W v xs → Calls Try.prog 19 #[v, .string s] W fun e w' => e = .returned (.float .f64 r) ∧ Below W.heap.size W w' := by
  have hpos := rowF_pos xs 0 none
  have htop := rowF_top xs 0 none (by decide) hx
  have hb := budF_le s xs 0
  have hl := fun W v (h : Rs W v xs) => length_any h hp
  have hr := fun W v (h : Rs W v xs) => rRow_any h hp
  have hu := fun W v (h : Rs W v xs) => budget_any (s := s) h hp
  have hv := fun W v (h : Rs W v xs) => rBudget_any (s := s) h hp
  generalize rowF 0 none xs = R at *
  generalize budF s 0 xs = b at *
  by_cases h0 : R = 0
  · subst h0
    exact ⟨0, order_zero, fun W v h => share_zero (hl W v h), fun W v h => rShare_zero (hr W v h)⟩
  · have hR : 0 < R := by rcases hpos with h | h <;> omega
    obtain ⟨m, rfl⟩ := Int.eq_ofNat_of_zero_le (Int.le_of_lt hR)
    obtain ⟨c, rfl⟩ := Int.eq_ofNat_of_zero_le hb.1
    obtain ⟨r, h1, h2⟩ := quo_some (b := c) (m := m) (by omega) (by omega) (by omega)
    exact ⟨r, h2, fun W v h => share_pos (hl W v h) (fun W' hb => hu W' v (h.below hb)) h0 h1, fun W v h => rShare_pos (hr W v h) (fun W' hb => hv W' v (h.below hb)) h0 h1⟩
end Go.Proofs.Ytlbkadclojjnfaa
