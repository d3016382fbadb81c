/- Scan: its tables in memory; the functions that only reckon. -/
import Derived.Test.YtlhecgokedckdaaDoorSWord
namespace Go.Proofs.YtlhecgokedckdaaDoor
open Go.RowKit
/-- the tables lie in memory -/
structure Tabs (w : World) : Prop where
  cls : ∀ i, i < 128 → w.cell? ⟨1, i, none⟩ = some (.int .u8 (Sc.classes.getD i 0 : Nat))
  res : ∀ i, i < 44 → w.cell? ⟨0, i, none⟩ = some (.string (mkS (Sc.reserved.getD i [])))
  sig : ∀ i, i < 26 → w.cell? ⟨2, i, none⟩ = some (.string (mkS (Sc.signs.getD i [])))
/-- the document's own tables -/
structure RTabs (w : World) : Prop where
  res : ∀ i, i < 44 → w.cell? ⟨3, i, none⟩ = some (.string (mkS (Sc.reserved.getD i [])))
  sig : ∀ i, i < 26 → w.cell? ⟨4, i, none⟩ = some (.string (mkS (Sc.signs.getD i [])))
theorem cell_keeps {S : Nat → Prop} {w w' : World} {b i : Nat} {v : Value} (h : w.cell? ⟨b, i, none⟩ = some v) (hk : Keeps S w w') (hn : ¬ S b) : w'.cell? ⟨b, i, none⟩ = some v := by
  rw [World.cell?_of_block (w := w) (a := ⟨b, i, none⟩) (hk.block b (World.block_lt_of_cell? w _ h) hn)]
  exact h
theorem Tabs.keeps {S : Nat → Prop} {w w' : World} (h : Tabs w) (hk : Keeps S w w') (hn : ∀ k, k < 9 → ¬ S k) : Tabs w' :=
  ⟨fun i hi => cell_keeps (h.cls i hi) hk (hn _ (by decide)), fun i hi => cell_keeps (h.res i hi) hk (hn _ (by decide)), fun i hi => cell_keeps (h.sig i hi) hk (hn _ (by decide))⟩
theorem RTabs.keeps {S : Nat → Prop} {w w' : World} (h : RTabs w) (hk : Keeps S w w') (hn : ∀ k, k < 9 → ¬ S k) : RTabs w' := by
  constructor
  · exact fun i hi => cell_keeps (h.res i hi) hk (hn _ (by decide))
  · exact fun i hi => cell_keeps (h.sig i hi) hk (hn _ (by decide))
theorem RTabs.below {w w' : World} (h : RTabs w) (hb : Below w.heap.size w w') : RTabs w' := h.keeps (Keeps.of_below (S := fun _ => False) hb) (fun _ _ e => e)
theorem Tabs.below {w w' : World} (h : Tabs w) (hb : Below w.heap.size w w') : Tabs w' := h.keeps (Keeps.of_below (S := fun _ => False) hb) (fun _ _ e => e)
theorem ret_u64 {x y : Int} (h : x = y) : Ending.returned (.int .u64 x) = Ending.returned (.int .u64 y) := by rw [h]
theorem ret_i64 {x y : Int} (h : x = y) : Ending.returned (.int .i64 x) = Ending.returned (.int .i64 y) := by rw [h]
theorem ret_bool {x y : Bool} (h : x = y) : Ending.returned (.bool x) = Ending.returned (.bool y) := by rw [h]
set_option maxRecDepth 100000 in
theorem class_any {b : Nat} (hb : b < 256) {w : World} (ht : Tabs w) : Calls Tryd.prog 30 #[.int .u8 (b : Int)] w fun e w' => e = .returned (.int .u8 (Sc.cls b : Nat)) ∧ w' = w := by
  by_cases h : b < 128
  · have hc := ht.cls b h
    have e : Sc.cls b = Sc.classes.getD b 0 := by simp [Sc.cls, h]
    rw [e]
    generalize Sc.classes.getD b 0 = z at *
    clear ht e
    go_enter Tryd.func30, Tryd.ntmps30
    go_wp2
    go_ret
    exact ⟨rfl, rfl⟩
  · have e : Sc.cls b = 0 := by simp [Sc.cls, h]
    rw [e]
    clear ht e
    go_enter Tryd.func30, Tryd.ntmps30
    go_wp2
    go_ret
    exact ⟨rfl, rfl⟩
theorem isWord_any {b : Nat} (hb : b < 256) {w : World} (ht : Tabs w) : Calls Tryd.prog 44 #[.int .u8 (b : Int)] w fun e w' => e = .returned (.bool (Sc.isW b)) ∧ w' = w := by
  have HC := class_any hb ht
  have hl := Sc.cls_lt b
  have e : Sc.isW b = decide (5 ≤ Sc.cls b) := rfl
  rw [e]
  generalize Sc.cls b = c at *
  have HC' : Hid (Calls Tryd.prog 30 #[.int .u8 (b : Int)] w fun e w' => e = .returned (.int .u8 (c : Nat)) ∧ w' = w) := HC
  clear HC ht e
  go_enter Tryd.func44, Tryd.ntmps44
  go_wp2_with fail
  refine HC'.out.mono ?_
  rintro e w' ⟨rfl, rfl⟩
  clear HC'
  go_wp2
  go_ret
  refine ⟨ret_bool ?_, rfl⟩
  rw [decide_eq_decide]
  omega
set_option maxHeartbeats 1000000 in
theorem value_any {b : Nat} (hb : b < 256) (w : World) : Calls Tryd.prog 48 #[.int .u8 (b : Int)] w fun e w' => e = .returned (.int .u64 (Sc.value b : Nat)) ∧ w' = w := by
  go_enter Tryd.func48, Tryd.ntmps48
  go_wp2
  all_goals
    go_ret
    refine ⟨ret_u64 ?_, rfl⟩
    unfold Sc.value
    repeat' split
    all_goals omega
set_option maxHeartbeats 1000000 in
theorem unit_any {b : Nat} (hb : b < 256) (w : World) : Calls Tryd.prog 50 #[.int .u8 (b : Int)] w fun e w' => e = .returned (.int .u64 (Sc.unit b : Nat)) ∧ w' = w := by
  unfold Sc.unit
  by_cases h1 : b = 77
  · subst h1
    go_enter Tryd.func50, Tryd.ntmps50
    go_wp2
    go_ret
    exact ⟨rfl, rfl⟩
  · by_cases h2 : b = 75
    · subst h2
      go_enter Tryd.func50, Tryd.ntmps50
      go_wp2
      go_ret
      exact ⟨rfl, rfl⟩
    · have q1 : ((b : Int) == 77) = false := beq_eq_false_iff_ne.2 (by omega)
      have q2 : ((b : Int) == 75) = false := beq_eq_false_iff_ne.2 (by omega)
      go_enter Tryd.func50, Tryd.ntmps50
      go_wp2
      go_ret
      exact ⟨rfl, rfl⟩
/-- what more answers -/
def moreV (n t d : Nat) : Value := if Sc.over n t d then .tuple #[.int .u64 0, .bool false] else .tuple #[.int .u64 ((n * t + d : Nat) : Int), .bool true]
set_option maxHeartbeats 1000000 in
theorem more_any {n t d : Nat} (hn : n ≤ Sc.top) (ht0 : 0 < t) (ht : t ≤ Sc.top) (hd : d ≤ Sc.top) (w : World) : Calls Tryd.prog 49 #[.int .u64 (n : Int), .int .u64 (t : Int), .int .u64 (d : Int)] w fun e w' => e = .returned (moreV n t d) ∧ w' = w := by
  unfold moreV Sc.over
  unfold Sc.top at *
  have hq : ((18446744073709551615 - d) / t) * t ≤ 18446744073709551615 - d := Nat.div_mul_le_self _ _
  have hq1 : (18446744073709551615 - d) / t ≤ 18446744073709551615 - d := Nat.div_le_self _ _
  have e1 : Int.tdiv (18446744073709551615 - (d : Int)) (t : Int) = (((18446744073709551615 - d) / t : Nat) : Int) := by
    rw [show (18446744073709551615 - (d : Int)) = ((18446744073709551615 - d : Nat) : Int) by omega]
    rfl
  generalize (18446744073709551615 - d) / t = q at *
  have hz : ((t : Int) == 0) = false := beq_eq_false_iff_ne.2 (by omega)
  by_cases h : q < n
  · rw [decide_eq_true h, if_pos rfl]
    clear hq
    go_enter Tryd.func49, Tryd.ntmps49
    go_wp2
    go_ret2
    exact ⟨rfl, rfl⟩
  · have hm : n * t ≤ q * t := Nat.mul_le_mul_right t (by omega)
    have hp : n * t + d ≤ 18446744073709551615 := by omega
    rw [decide_eq_false h, if_neg (by decide)]
    clear hq hm
    have e2 : (n : Int) * (t : Int) = ((n * t : Nat) : Int) := by simp
    have e3 : ((n * t + d : Nat) : Int) = ((n * t : Nat) : Int) + (d : Int) := by omega
    rw [e3]
    generalize n * t = m at *
    clear e3
    go_enter Tryd.func49, Tryd.ntmps49
    go_wp2
    go_ret2
    exact ⟨rfl, rfl⟩
end Go.Proofs.YtlhecgokedckdaaDoor
