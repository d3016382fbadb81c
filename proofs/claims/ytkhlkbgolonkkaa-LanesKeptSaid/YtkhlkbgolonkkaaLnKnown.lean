/- Lanes: known. Own work. -/
import Derived.Test.YtkhlkbgolonkkaaLnAsk
import Derived.Test.YtkhlkbgolonkkaaLnAt3
namespace Go.Proofs.Ytkhlkbgolonkkaa
open Go.RowKit
theorem two_of {w : World} : Two (w.alloc (.cells #[.int .i64 0, .string ⟨#[97]⟩, .int .u64 3, .int .u64 0, .int .i64 0, .string ⟨#[]⟩, .int .u64 2, .int .u64 0] 30)) w.heap.size := by
  have h : (w.alloc (.cells #[.int .i64 0, .string ⟨#[97]⟩, .int .u64 3, .int .u64 0, .int .i64 0, .string ⟨#[]⟩, .int .u64 2, .int .u64 0] 30)).heap[w.heap.size]? = some (.cells #[.int .i64 0, .string ⟨#[97]⟩, .int .u64 3, .int .u64 0, .int .i64 0, .string ⟨#[]⟩, .int .u64 2, .int .u64 0] 30 (0, 0)) := Array.getElem?_push_size
  refine ⟨?_, ?_, ?_, ?_, ?_, ?_, ?_, ?_⟩ <;> rw [cell_of_row _ _ _ _ _ _ h] <;> rfl
theorem one_of {w : World} : One (w.alloc (.cells #[.int .i64 0, .string ⟨#[97]⟩, .int .u64 3, .int .u64 0] 30)) w.heap.size := by
  have h : (w.alloc (.cells #[.int .i64 0, .string ⟨#[97]⟩, .int .u64 3, .int .u64 0] 30)).heap[w.heap.size]? = some (.cells #[.int .i64 0, .string ⟨#[97]⟩, .int .u64 3, .int .u64 0] 30 (0, 0)) := Array.getElem?_push_size
  refine ⟨?_, ?_, ?_, ?_⟩ <;> rw [cell_of_row _ _ _ _ _ _ h] <;> rfl
theorem st_of {w : World} : Rd2 (w.alloc (.cells #[.int .i64 2, .int .i64 3] 58)) (.slice (some ⟨w.heap.size, 0, none⟩) 1 1) [(2, 3)] := by
  have h : (w.alloc (.cells #[.int .i64 2, .int .i64 3] 58)).heap[w.heap.size]? = some (.cells #[.int .i64 2, .int .i64 3] 58 (0, 0)) := Array.getElem?_push_size
  refine ⟨_, 1, rfl, by decide, by decide, fun x hx => ?_, fun i hi => ⟨_, 0, rfl, ?_⟩⟩
  · simp only [List.mem_singleton] at hx
    subst hx
    decide
  · obtain rfl : i = 0 := by simpa using hi
    exact ⟨by rw [cell_of_row _ _ _ _ _ _ h]; rfl, by rw [cell_of_row _ _ _ _ _ _ h]; rfl⟩
set_option maxRecDepth 100000 in
set_option maxHeartbeats 4000000 in
theorem known_any (w : World) : Calls Try.prog 7 #[] w fun e w' => e = .returned (.bool true) ∧ Below w.heap.size w w' := by
  go_enter Try.func7, Try.ntmps7
  go_wp2_with fail
  refine (flatten_two two_of (by decide) (by decide)).mono ?_
  rintro e w1 ⟨lv, rfl, ho1, hb1⟩
  obtain ⟨g, c, rfl, hs1, hc1, hc2, hg1⟩ := sl2_of ho1
  have HB1 : Hid (Below w.heap.size w w1) := ((Below.refl _ _).alloc (Nat.le_refl _) _).trans (hb1.mono (by simp))
  have HS1 := Lib.hid hs1
  have HC := Lib.hid hc2
  have hgl := hs1.lt
  clear ho1 hb1 hs1 hg1 hc2
  go_wp2_with fail
  refine (flatten_zero rfl).mono ?_
  rintro e w2 ⟨rfl, hb2⟩
  have HB2 : Hid (Below w.heap.size w w2) := HB1.out.trans (hb2.mono HB1.out.size)
  have HS2 := Lib.hid (HS1.out.below HS1.out.lt hb2)
  clear hb2 HB1 HS1 hgl
  go_wp2_with fail
  refine (sched_two HS2.out hc1 HC.out).mono ?_
  rintro e w3 ⟨rfl, hb3⟩
  have HB3 : Hid (Below w.heap.size w w3) := HB2.out.trans (hb3.mono HB2.out.size)
  have HS3 := Lib.hid (HS2.out.below HS2.out.lt hb3)
  clear hb3 HB2 HS2
  go_wp2_with fail
  refine (demand_one one_of (by decide) (by decide)).mono ?_
  rintro e w4 ⟨rfl, hb4⟩
  have ha4 : Below w3.heap.size w3 w4 := ((Below.refl _ _).alloc (Nat.le_refl _) _).trans (hb4.mono (by simp))
  have HB4 : Hid (Below w.heap.size w w4) := HB3.out.trans (ha4.mono HB3.out.size)
  have HS4 := Lib.hid (HS3.out.below HS3.out.lt ha4)
  clear hb4 ha4 HB3 HS3
  go_wp2_with fail
  refine (at_any (m := 5) (o := 1) st_of (by decide) (by decide) (by decide)).mono ?_
  rintro e w5 ⟨rfl, hb5⟩
  have ha5 : Below w4.heap.size w4 w5 := ((Below.refl _ _).alloc (Nat.le_refl _) _).trans (hb5.mono (by simp))
  have HB5 : Hid (Below w.heap.size w w5) := HB4.out.trans (ha5.mono HB4.out.size)
  have HS5 := Lib.hid (HS4.out.below HS4.out.lt ha5)
  clear hb5 ha5 HB4 HS4
  rw [show atL 5 1 (-1) 0 [(2, 3)] = (2, 2) from by decide]
  obtain ⟨c0, c1, c2, c3, c4, c5⟩ := HS5.out
  have hci : (2 : Int) ≤ (c : Int) := by omega
  go_wp2_with fail
  refine (budget_a HS5.out hc1 HC.out).mono ?_
  rintro e w6 ⟨rfl, hb6⟩
  have HB6 : Hid (Below w.heap.size w w6) := HB5.out.trans (hb6.mono HB5.out.size)
  have HS6 := Lib.hid (HS5.out.below HS5.out.lt hb6)
  clear hb6 HB5 HS5 c0 c1 c2 c3 c4 c5
  go_wp2_with fail
  refine (share_n HS6.out hc1 HC.out).mono ?_
  rintro e w7 ⟨rfl, hb7⟩
  have HB7 : Hid (Below w.heap.size w w7) := HB6.out.trans (hb7.mono HB6.out.size)
  clear hb7 HB6 HS6
  go_wp2_with fail
  go_ret
  exact ⟨rfl, HB7.out⟩
end Go.Proofs.Ytkhlkbgolonkkaa
