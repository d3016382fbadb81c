/- Scan: Number of 40. -/
import Derived.Test.YtlhecgokedckdaaDoorScQuote
import Derived.Test.YtlhecgokedckdaaDoorScNamed
import Derived.Lib.AppendStr
namespace Go.Proofs.YtlhecgokedckdaaDoor
open Go.RowKit
set_option maxRecDepth 100000 in
set_option maxHeartbeats 1000000 in
theorem small40 (w : World) : Calls Tryd.prog 52 #[.int .i64 40] w fun e w' => e = .returned (.string ⟨#[52, 48]⟩) ∧ w' = w := by
  go_enter Tryd.func52, Tryd.ntmps52
  go_wp2
  go_ret
  exact ⟨by kernel_rfl, rfl⟩
theorem cells40 : Lib.strCells ⟨#[52, 48]⟩ = bvs [52, 48] := rfl
set_option maxRecDepth 100000 in
set_option maxHeartbeats 1000000 in
theorem append40 (w : World) : Calls Tryd.prog 43 #[.slice none 0 0, .int .u64 40, .int .i64 10] w fun e w' => ∃ v, e = .returned v ∧ Own w' w.heap.size v [52, 48] ∧ Below w.heap.size w w' := by
  obtain ⟨i, hi, hz0, hz1, hz2⟩ := info_parts info_byte
  have HX : Hid (Calls Tryd.prog 52 #[.int .i64 40] w fun e w' => e = .returned (.string ⟨#[52, 48]⟩) ∧ w' = w) := small40 w
  go_enter Tryd.func43, Tryd.ntmps43
  go_wp2_with fail
  refine HX.out.mono ?_
  rintro e w1 ⟨rfl, rfl⟩
  clear HX
  go_wp2_with (at_builtin; refine Lib.wpList_append_own_string _ rfl _ _ 28 9 rfl w1.heap.size 5 i Tryd.underlying28 Tryd.underlying9 hi hz0 hz1 hz2 (.slice none 0 0) 0 [] rfl (World.ownsRow_nil w1 w1.heap.size 5 1) ⟨#[52, 48]⟩ rfl (by decide) (by decide) (Nat.le_refl _) ?_; intro v2 w2 h2 g2 _; have HB : Hid (Below w1.heap.size w1 w2) := below_grown g2 (Nat.le_refl _) (fun k hk => by cases hk); have HO : Hid (Own w2 w1.heap.size v2 [52, 48]) := (by rw [cells40] at h2; exact h2); clear h2 g2)
  go_ret
  exact ⟨_, rfl, HO.out, HB.out⟩
set_option maxHeartbeats 400000 in
theorem sappend40 (w : World) : Calls Tryd.prog 24 #[.slice none 0 0, .int .u64 40, .int .i64 10] w fun e w' => ∃ v, e = .returned v ∧ Own w' w.heap.size v [52, 48] ∧ Below w.heap.size w w' := by
  have HX := append40 w
  have HX' : Hid (Calls Tryd.prog 43 #[.slice none 0 0, .int .u64 40, .int .i64 10] w fun e w' => ∃ v, e = .returned v ∧ Own w' w.heap.size v [52, 48] ∧ Below w.heap.size w w') := HX
  clear HX
  go_enter Tryd.func24, Tryd.ntmps24
  go_wp2_with fail
  refine HX'.out.mono ?_
  rintro e w1 ⟨v, rfl, ho, hb⟩
  go_wp2_with fail
  go_ret
  exact ⟨_, rfl, ho, hb⟩
set_option maxHeartbeats 400000 in
theorem number40 (w : World) : Calls Tryd.prog 9 #[.int .u64 40] w fun e w' => ∃ v, e = .returned v ∧ Own w' w.heap.size v [52, 48] ∧ Below w.heap.size w w' := by
  have HX' : Hid (Calls Tryd.prog 24 #[.slice none 0 0, .int .u64 40, .int .i64 10] w fun e w' => ∃ v, e = .returned v ∧ Own w' w.heap.size v [52, 48] ∧ Below w.heap.size w w') := sappend40 w
  go_enter Tryd.func9, Tryd.ntmps9
  go_wp2_with fail
  refine HX'.out.mono ?_
  rintro e w1 ⟨v, rfl, ho, hb⟩
  go_wp2_with fail
  go_ret
  exact ⟨_, rfl, ho, hb⟩
end Go.Proofs.YtlhecgokedckdaaDoor
