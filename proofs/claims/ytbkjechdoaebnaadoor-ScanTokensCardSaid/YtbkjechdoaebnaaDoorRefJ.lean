/- ScanTokens: the walk. -/
import Derived.Test.YtbkjechdoaebnaaDoorRefI
namespace Go.Proofs.YtbkjechdoaebnaaDoor
open Go.RowKit Sc
theorem sl_front {w : World} {ao : Option Addr} {cap k : Nat} {zs : List Nat} (h : Sl w (.slice ao zs.length cap) zs) (hk : k ≤ zs.length) : Sl w (.slice ao k cap) (zs.take k) := by
  by_cases hp : 0 < zs.length
  · obtain ⟨b, o, c, e, _⟩ := id (h.pos hp)
    cases e
    exact h.front k hk
  · obtain rfl : zs = [] := List.eq_nil_of_length_eq_zero (by omega)
    obtain rfl : k = 0 := by simpa using hk
    exact h
set_option maxRecDepth 100000 in
set_option maxHeartbeats 1000000 in
theorem scanTokens_walk {w : World} {v : Value} {zs : List Nat} {n : Int} (ht : Tabs w) (hr : RTabs w) (h9 : 9 ≤ w.heap.size) (hs : Sl w v zs) (hl : zs.length ≤ 140737488351232) :
    Calls Tryd.prog 4 #[v, .int .i64 n] w fun e w' => e = .returned (.bool true) ∧ Below w.heap.size w w' := by
  have HK : Hid (∀ W, Below w.heap.size w W → Calls Tryd.prog 10 #[] W fun e w' => e = .returned (.bool true) ∧ Below W.heap.size W w') := fun W hW => known_any (ht.below hW) (Nat.le_trans h9 hW.size)
  have HTo : Hid (∀ W u xs, Below w.heap.size w W → Sl w u xs → xs.length ≤ zs.length → Calls Tryd.prog 11 #[u] W fun e w' => e = .returned (.bool true) ∧ Below W.heap.size W w') := fun W u xs hW hu hx => told_any (ht.below hW) (hr.below hW) (Nat.le_trans h9 hW.size) (hu.below hW) (by omega)
  have HWi : Hid (∀ W, Calls Tryd.prog 12 #[.int .i64 n, .int .i64 0, .int .i64 (zs.length : Int)] W fun e w' => ∃ r : Nat, e = .returned (.int .i64 (r : Int)) ∧ r ≤ zs.length ∧ W = w') := fun W => bookWithin_any hl W
  have HS : Hid (Sl w v zs) := hs
  obtain ⟨ao, cap, rfl, hc1, hc2, _⟩ := id hs
  unfold maxLen at hc2
  clear ht hr hs
  go_enter Tryd.func4, Tryd.ntmps4
  go_wp2_with fail
  refine (HTo.out w _ zs (Below.refl _ _) HS.out (Nat.le_refl _)).mono ?_
  rintro e w1 ⟨rfl, hb1⟩
  have HB1 : Hid (Below w.heap.size w w1) := hb1
  clear hb1
  go_wp2_with fail
  refine (HWi.out _).mono ?_
  rintro e w2 ⟨r, rfl, hr, rfl⟩
  clear HWi
  have ir : (r : Int) ≤ (cap : Int) := by omega
  go_wp2_with fail
  refine (HTo.out w1 _ (zs.take r) HB1.out (sl_front HS.out hr) (by rw [List.length_take]; omega)).mono ?_
  rintro e w3 ⟨rfl, hb3⟩
  have HB3 : Hid (Below w.heap.size w w3) := HB1.out.trans (hb3.mono HB1.out.size)
  clear hb3 HB1
  go_wp2_with fail
  refine (HTo.out w3 _ zs HB3.out HS.out (Nat.le_refl _)).mono ?_
  rintro e w4 ⟨rfl, hb4⟩
  have HB4 : Hid (Below w.heap.size w w4) := HB3.out.trans (hb4.mono HB3.out.size)
  clear hb4 HB3
  go_wp2_with fail
  refine (HK.out w4 HB4.out).mono ?_
  rintro e w5 ⟨rfl, hb5⟩
  go_wp2_with fail
  go_ret
  exact ⟨rfl, HB4.out.trans (hb5.mono HB4.out.size)⟩
end Go.Proofs.YtbkjechdoaebnaaDoor
