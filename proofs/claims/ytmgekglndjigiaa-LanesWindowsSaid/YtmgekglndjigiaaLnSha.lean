/- Lanes: Share, the package's and the document's. Own work. -/
import Derived.Test.YtmgekglndjigiaaLnSch
import Derived.Test.YtmgekglndjigiaaLnBud
import Derived.Test.YtmgekglndjigiaaLnFl
namespace Go.Proofs.Ytmgekglndjigiaa
open Go.RowKit
theorem rowF_top : ∀ (l : List S3) (e : Int) (p : Option ByteArray), e ≤ 9223372036854775807 → (∀ x ∈ l, I64 x) → rowF e p l ≤ 9223372036854775807
  | [], e, p, he, _ => by unfold rowF; exact he
  | x :: r, e, p, he, hx => by
    unfold rowF
    split
    · decide
    · exact rowF_top r x.t _ (hx x (by simp)).2.2.2 (fun y hy => hx y (by simp [hy]))
set_option maxRecDepth 100000 in
set_option maxHeartbeats 400000 in
theorem share_zero {w : World} {v : Value} {s : ByteArray} (hl : Calls Try.prog 31 #[v] w fun e w' => e = .returned (.int .i64 0) ∧ Below w.heap.size w w') : Calls Try.prog 16 #[v, .string s] w fun e w' => e = .returned (.float .f64 0) ∧ Below w.heap.size w w' := by
  have HL := Lib.hid hl
  clear hl
  go_enter Try.func16, Try.ntmps16
  go_wp2_with fail
  refine HL.out.mono ?_
  rintro e w1 ⟨rfl, hb1⟩
  have HB1 := Lib.hid hb1
  clear hb1 HL
  go_wp2_with fail
  go_ret
  exact ⟨rfl, HB1.out⟩
set_option maxRecDepth 100000 in
set_option maxHeartbeats 400000 in
theorem share_pos {w : World} {v : Value} {s : ByteArray} {R b : Int} {r : Nat} (hl : Calls Try.prog 31 #[v] w fun e w' => e = .returned (.int .i64 R) ∧ Below w.heap.size w w') (hbu : ∀ W, Below w.heap.size w W → Calls Try.prog 15 #[v, .string s] W fun e w' => e = .returned (.int .i64 b) ∧ Below W.heap.size W w') (hR : R ≠ 0) (hq : floatBits .quo .f64 (floatOfInt .f64 b) (floatOfInt .f64 R) = some r) : Calls Try.prog 16 #[v, .string s] w fun e w' => e = .returned (.float .f64 r) ∧ Below w.heap.size w w' := by
  have HL := Lib.hid hl
  have HBu := Lib.hid hbu
  have hr : ∀ W, (binOp .quo 44 (.float .f64 (floatOfInt .f64 b)) (.float .f64 (floatOfInt .f64 R))).run Try.prog W = .ok (.float .f64 r) W := fun W => run_float_arith W .quo 44 .f64 _ _ _ hq
  clear hl hbu hq
  go_enter Try.func16, Try.ntmps16
  go_wp2_with fail
  refine HL.out.mono ?_
  rintro e w1 ⟨rfl, hb1⟩
  have HB1 := Lib.hid hb1
  clear hb1 HL
  go_wp2_with fail
  refine (HBu.out _ HB1.out).mono ?_
  rintro e w2 ⟨rfl, hb2⟩
  have HB2 : Hid (Below w.heap.size w w2) := HB1.out.trans (hb2.mono HB1.out.size)
  clear hb2
  go_wp2_with fail
  go_ret
  exact ⟨rfl, HB2.out⟩
theorem order_zero : Ieee.double.order 0 0 = some .eq := by decide
end Go.Proofs.Ytmgekglndjigiaa
