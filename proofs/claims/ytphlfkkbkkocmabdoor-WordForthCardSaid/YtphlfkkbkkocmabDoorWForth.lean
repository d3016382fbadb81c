/- WordForth's walk. -/
import Derived.Test.YtphlfkkbkkocmabDoorForth
namespace Go.Proofs.YtphlfkkbkkocmabDoor
open Go.RowKit
set_option maxHeartbeats 1000000 in
theorem beyond1_no (a : Nat) (g cap : Nat) (w : World) (h : a ≤ 2147483647) (h0 : w.cell? ⟨g, 0, none⟩ = some (.int .i64 a)) :
    Calls Tryd.prog 6 #[.slice (some ⟨g, 0, none⟩) 1 cap] w fun e w' => e = .returned (.bool false) ∧ w' = w := by
  have HC0 : Hid (w.cell? ⟨g, 0, none⟩ = some (.int .i64 a)) := h0
  clear h0
  go_enter Tryd.func6, Tryd.ntmps6
  go_wp2
  go_loop [3, 4] (fun l i => (i = .int .i64 0 ∧ l = .int .i64 2147483647) ∨ i = .int .i64 1) (fun _ i => 1 - (intOf i).toNat)
  case atStart => exact .inl ⟨rfl, rfl⟩
  case round =>
    rcases hrel with ⟨rfl, rfl⟩ | rfl
    · have h0 := HC0.out
      go_wp2
      go_round
      case rel => exact .inr rfl
      case measure => simp [intOf]
    · go_wp2
      go_ret
      exact ⟨rfl, rfl⟩
set_option maxHeartbeats 1000000 in
theorem beyond1_yes (a : Nat) (g cap : Nat) (w : World) (h : 2147483647 < a) (h0 : w.cell? ⟨g, 0, none⟩ = some (.int .i64 a)) :
    Calls Tryd.prog 6 #[.slice (some ⟨g, 0, none⟩) 1 cap] w fun e w' => e = .returned (.bool true) ∧ w' = w := by
  have HC0 : Hid (w.cell? ⟨g, 0, none⟩ = some (.int .i64 a)) := h0
  clear h0
  go_enter Tryd.func6, Tryd.ntmps6
  go_wp2
  go_loop [3, 4] (fun l i => i = .int .i64 0 ∧ l = .int .i64 2147483647) (fun _ i => 1 - (intOf i).toNat)
  case atStart => exact ⟨rfl, rfl⟩
  case round =>
    obtain ⟨rfl, rfl⟩ := hrel
    have h0 := HC0.out
    go_wp2
    go_ret
    exact ⟨rfl, rfl⟩
set_option maxRecDepth 100000 in
set_option maxHeartbeats 2000000 in
theorem wforth_far {w : World} {u v : Value} {zs : List Nat} (hu : Sl w u zs) (hle : 2147483647 < zs.length) :
    Calls Tryd.prog 3 #[u, v] w fun e w' => e = .returned (.bool true) ∧ Below w.heap.size w w' := by
  obtain ⟨ao, cap, rfl, h1, h2, _, _, _⟩ := hu
  unfold maxLen at h2
  have HX : Hid (∀ x, Below w.heap.size w (w.alloc x)) := fun x => (Below.refl _ _).alloc (Nat.le_refl _) x
  go_enter Tryd.func3, Tryd.ntmps3
  go_wp2_with fail
  refine (beyond1_yes zs.length _ _ _ hle (by simp)).mono ?_
  rintro e w' ⟨rfl, hw⟩
  rw [hw]
  clear hw w'
  go_wp2
  go_ret
  exact ⟨rfl, HX.out _⟩
def firstOp : OpV := ⟨6, 0, 0, 0, .slice none 0 0, [], ⟨#[120]⟩⟩
theorem first_took : (takeF [1, 0, 98] 0 firstOp).why = 0 ∧ (takeF [1, 0, 98] 0 firstOp).pos = [1, 0, 98].length := by decide
theorem first_sl {w : World} {g : Nat} {t : Nat} (h : w.heap[g]? = some (.cells #[.int .u8 1, .int .u8 0, .int .u8 98] t (0, 0))) : Sl w (.slice (some ⟨g, 0, none⟩) 3 3) [1, 0, 98] := by
  refine ⟨some ⟨g, 0, none⟩, 3, rfl, by decide, by decide, by decide, fun e => (by cases e), fun i hi => ⟨g, 0, rfl, ?_⟩⟩
  rw [cell_of_row w g _ _ _ _ h]
  match i, hi with
  | 0, _ => rfl
  | 1, _ => rfl
  | 2, _ => rfl
theorem first_scr {w : World} {g : Nat} {t : Nat} (h : w.heap[g]? = some (.cells #[.int .i64 6, .int .i64 0, .int .u64 0, .int .i64 0, .slice none 0 0, .string ⟨#[120]⟩] t (0, 0))) : Scr w (.slice (some ⟨g, 0, none⟩) 1 1) [firstOp] := by
  obtain ⟨c0, c1, c2, c3, c4, c5, _⟩ := six_of h
  refine ⟨some ⟨g, 0, none⟩, 1, rfl, Nat.le_refl _, by decide, fun i hi => ?_⟩
  obtain rfl : i = 0 := by simpa using hi
  exact ⟨g, 0, rfl, nil_sl w, (by show 0 < 18446744073709551616; decide), c0, c1, c2, c3, c4, c5⟩
theorem Scr.below {w w' : World} {v : Value} {os : List OpV} (h : Scr w v os) (hb : Below w.heap.size w w') : Scr w' v os := by
  obtain ⟨ao, cap, rfl, h1, h2, h3⟩ := h
  refine ⟨ao, cap, rfl, h1, h2, fun i hi => ?_⟩
  obtain ⟨b, o, op, e, rfl, r⟩ := Scr.at (⟨ao, cap, rfl, h1, h2, h3⟩ : Scr w (.slice ao os.length cap) os) hb i hi
  exact ⟨b, o, e, r⟩
theorem heap_two {w : World} {a b c : Obj} : (((w.alloc a).alloc b).alloc c).heap[w.heap.size + 1]? = some b ∧ (((w.alloc a).alloc b).alloc c).heap[w.heap.size + 1 + 1]? = some c := by
  constructor
  · rw [Below.heap_alloc _ _ _ (by simp)]
    have := heap_alloc_new (w.alloc a) b
    rwa [show (w.alloc a).heap.size = w.heap.size + 1 by simp] at this
  · have := heap_alloc_new ((w.alloc a).alloc b) c
    rwa [show ((w.alloc a).alloc b).heap.size = w.heap.size + 1 + 1 by simp] at this
theorem below_two {w : World} (a b c : Obj) : Below w.heap.size w (((w.alloc a).alloc b).alloc c) :=
  (((Below.refl _ w).alloc (Nat.le_refl _) a).alloc (by simp) b).alloc (by simp; omega) c
set_option maxRecDepth 100000 in
set_option maxHeartbeats 2000000 in
theorem wforth_near {w : World} {u v : Value} {zs : List Nat} {os : List OpV} (ht : Tab w) (hu : Sl w u zs) (hv : Scr w v os) (hle : zs.length ≤ 2147483647) :
    Calls Tryd.prog 3 #[u, v] w fun e w' => e = .returned (.bool true) ∧ Below w.heap.size w w' := by
  have HU : Hid (Sl w u zs) := hu
  have HV : Hid (Scr w v os) := hv
  have HT : Hid (Tab w) := ht
  clear ht
  obtain ⟨ao, cap, rfl, h1, h2, x1, x2, x3⟩ := hu
  obtain ⟨a2, cap2, rfl, h12, h22, x4⟩ := hv
  unfold maxLen at h2
  clear x1 x2 x3 x4
  go_enter Tryd.func3, Tryd.ntmps3
  go_wp2_with fail
  refine (beyond1_no zs.length _ _ _ hle (by simp)).mono ?_
  rintro e w' ⟨rfl, hw⟩
  rw [hw]
  clear hw w'
  go_wp2_with fail
  refine (forth_any (first_sl heap_two.1) (first_scr heap_two.2) (HT.out.below (below_two _ _ _)) (by decide) (fun _ => ⟨firstOp, rfl, first_took.1, first_took.2⟩)).mono ?_
  rintro e w5 ⟨rfl, hb5⟩
  have HB5 : Hid (Below w.heap.size w w5) := (below_two _ _ _).trans (hb5.mono (below_two _ _ _).size)
  clear hb5
  go_wp2_with fail
  refine (forth_any (HU.out.below HB5.out) (HV.out.below HB5.out) (HT.out.below HB5.out) (by omega) (fun h => by cases h)).mono ?_
  rintro e w6 ⟨rfl, hb6⟩
  have HB6 : Hid (Below w.heap.size w w6) := HB5.out.trans (hb6.mono HB5.out.size)
  clear hb6
  go_wp2
  go_ret
  exact ⟨rfl, HB6.out⟩
theorem wforth_any {w : World} {u v : Value} {zs : List Nat} {os : List OpV} (ht : Tab w) (hu : Sl w u zs) (hv : Scr w v os) :
    Calls Tryd.prog 3 #[u, v] w fun e w' => e = .returned (.bool true) ∧ Below w.heap.size w w' := by
  by_cases h : zs.length ≤ 2147483647
  · exact wforth_near ht hu hv h
  · exact wforth_far hu (by omega)
end Go.Proofs.YtphlfkkbkkocmabDoor
