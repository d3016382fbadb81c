/- Intact (where it must be true) and Beyond, of two numbers. -/
import Derived.Test.YtmkmdcoofngkiaaBook
namespace Go.Proofs.Ytmkmdcoofngkiaa
open Go.RowKit
theorem Sl.front {w : World} {b o cap : Nat} {zs : List Nat} (h : Sl w (.slice (some ⟨b, o, none⟩) zs.length cap) zs) (n : Nat) (hn : n ≤ zs.length) : Sl w (.slice (some ⟨b, o, none⟩) n cap) (zs.take n) := by
  obtain ⟨ao, cap', e, h1, h2, h3, h4, h5⟩ := h
  cases e
  refine ⟨some ⟨b, o, none⟩, cap, by rw [List.length_take, Nat.min_eq_left hn], by rw [List.length_take]; omega, h2, fun z hz => h3 z (List.mem_of_mem_take hz), by simp, fun i hi => ?_⟩
  rw [List.length_take] at hi
  obtain ⟨b', o', e, hc⟩ := h5 i (by omega)
  cases e
  refine ⟨b, o, rfl, hc.trans ?_⟩
  rw [List.getD_eq_getElem?_getD, List.getD_eq_getElem?_getD, List.getElem?_take, if_pos (by omega)]
set_option maxRecDepth 100000 in
set_option maxHeartbeats 1000000 in
theorem intact_any {u v : Value} {p : List Nat} {m : Nat} {w : World} (hu : Sl w u (roomed p m)) (hv : Sl w v p) :
    Calls Try.prog 23 #[u, v, .int .u8 ((m : Nat) : Int)] w fun e w' => e = .returned (.bool true) ∧ Below w.heap.size w w' := by
  have hl := roomed_length p m
  obtain ⟨b, o, cap, rfl, h1, h2, h3, h4⟩ := hu.pos (by omega)
  have hfront := hu.front p.length (by omega)
  rw [roomed_take] at hfront
  rw [hl] at h1 h4 ⊢
  have HS : Hid (Calls Try.prog 19 #[.slice (some ⟨b, o, none⟩) p.length cap, v] w fun e w' => e = .returned (.bool true) ∧ Below w.heap.size w w') := same_any hfront hv
  have HC : Hid (∀ i, i < p.length + 80 → w.cell? ⟨b, o + i, none⟩ = some (.int .u8 ((roomed p m).getD i 0 : Nat))) := h4
  obtain ⟨ao, cap2, rfl, k1, k2, _⟩ := hv
  clear h4 h3 hu hfront hl
  unfold maxLen at h2 k2
  go_enter Try.func23, Try.ntmps23
  go_wp2_with fail
  refine HS.out.mono ?_
  rintro e w' ⟨rfl, hb⟩
  have HB : Hid (Below w.heap.size w w') := hb
  clear hb HS
  go_wp2
  go_loop [7] (fun i => ∃ k : Nat, k ≤ 80 ∧ i = .int .i64 ((p.length + k : Nat) : Int)) (fun i => p.length + 80 - (intOf i).toNat)
  case atStart => exact ⟨0, by omega, rfl⟩
  case round =>
    obtain ⟨k, hk, rfl⟩ := hrel
    by_cases hlt : k < 80
    · have hc0 := HC.out (p.length + k) (by omega)
      rw [roomed_get p m k hlt] at hc0
      have hc := (HB.out.cell (p := ⟨b, o + (p.length + k), none⟩) (World.block_lt_of_cell? w _ hc0)).trans hc0
      clear hc0
      go_wp2
      go_round
      case rel => exact ⟨k + 1, by omega, by go_num⟩
      case measure => simp [intOf]; omega
    · go_wp2
      go_ret
      exact ⟨rfl, HB.out⟩
set_option maxHeartbeats 1000000 in
/-- Beyond of two numbers that are not negative -/
theorem beyond2_no (a b : Nat) (g cap : Nat) (w : World) (h : a + b ≤ 2147483647) (h0 : w.cell? ⟨g, 0, none⟩ = some (.int .i64 a)) (h1 : w.cell? ⟨g, 1, none⟩ = some (.int .i64 b)) :
    Calls Try.prog 17 #[.slice (some ⟨g, 0, none⟩) 2 cap] w fun e w' => e = .returned (.bool false) ∧ w' = w := by
  have HC0 : Hid (w.cell? ⟨g, 0, none⟩ = some (.int .i64 a)) := h0
  have HC1 : Hid (w.cell? ⟨g, 1, none⟩ = some (.int .i64 b)) := h1
  clear h0 h1
  go_enter Try.func17, Try.ntmps17
  go_wp2
  go_loop [3, 4] (fun l i => (i = .int .i64 0 ∧ l = .int .i64 2147483647) ∨ (i = .int .i64 1 ∧ l = .int .i64 (2147483647 - a)) ∨ (i = .int .i64 2 ∧ ∃ x, l = .int .i64 x)) (fun _ i => 2 - (intOf i).toNat)
  case atStart => exact .inl ⟨rfl, rfl⟩
  case round =>
    rcases hrel with ⟨rfl, rfl⟩ | ⟨rfl, rfl⟩ | ⟨rfl, x, rfl⟩
    · have h0 := HC0.out
      go_wp2
      go_round
      case rel => exact .inr (.inl ⟨rfl, rfl⟩)
      case measure => simp [intOf]
    · have h1 := HC1.out
      go_wp2
      go_round
      case rel => exact .inr (.inr ⟨rfl, _, rfl⟩)
      case measure => simp [intOf]
    · go_wp2
      go_ret
      exact ⟨rfl, rfl⟩
set_option maxHeartbeats 1000000 in
theorem beyond2_yes (a b : Nat) (g cap : Nat) (w : World) (ha : a ≤ maxLen) (h : 2147483647 < a + b) (h0 : w.cell? ⟨g, 0, none⟩ = some (.int .i64 a)) (h1 : w.cell? ⟨g, 1, none⟩ = some (.int .i64 b)) :
    Calls Try.prog 17 #[.slice (some ⟨g, 0, none⟩) 2 cap] w fun e w' => e = .returned (.bool true) ∧ w' = w := by
  unfold maxLen at ha
  have HC0 : Hid (w.cell? ⟨g, 0, none⟩ = some (.int .i64 a)) := h0
  have HC1 : Hid (w.cell? ⟨g, 1, none⟩ = some (.int .i64 b)) := h1
  clear h0 h1
  go_enter Try.func17, Try.ntmps17
  go_wp2
  go_loop [3, 4] (fun l i => (i = .int .i64 0 ∧ l = .int .i64 2147483647) ∨ (a ≤ 2147483647 ∧ i = .int .i64 1 ∧ l = .int .i64 (2147483647 - a))) (fun _ i => 2 - (intOf i).toNat)
  case atStart => exact .inl ⟨rfl, rfl⟩
  case round =>
    rcases hrel with ⟨rfl, rfl⟩ | ⟨hle, rfl, rfl⟩
    · have h0 := HC0.out
      by_cases hle : a ≤ 2147483647
      · go_wp2
        go_round
        case rel => exact .inr ⟨hle, rfl, rfl⟩
        case measure => simp [intOf]
      · go_wp2
        go_ret
        exact ⟨rfl, rfl⟩
    · have h1 := HC1.out
      go_wp2
      go_ret
      exact ⟨rfl, rfl⟩
end Go.Proofs.Ytmkmdcoofngkiaa
