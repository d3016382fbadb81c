/- Lanes: the small lanes of known: inTurn, wants, refused, Flatten, Demand. Own work. -/
import Derived.Test.YtkhlkbgolonkkaaLnAdd
namespace Go.Proofs.Ytkhlkbgolonkkaa
open Go.RowKit
def sA : ByteArray := ⟨#[97]⟩
def sN : ByteArray := ⟨#[]⟩
theorem Rw.below {w w' : World} {k base : Nat} {v : Value} {xs : List S3} (h : Rw w k base v xs) (hb : Below w.heap.size w w') : Rw w' k base v xs := ⟨(hb.block k h.lt).trans h.blk, h.own.below hb, h.ge, h.ne⟩
/-- the runs a 3, idle 2 in memory -/
structure Two (w : World) (g : Nat) : Prop where
  c0 : w.cell? ⟨g, 0, none⟩ = some (.int .i64 0)
  c1 : w.cell? ⟨g, 1, none⟩ = some (.string ⟨#[97]⟩)
  c2 : w.cell? ⟨g, 2, none⟩ = some (.int .u64 3)
  c3 : w.cell? ⟨g, 3, none⟩ = some (.int .u64 0)
  c4 : w.cell? ⟨g, 4, none⟩ = some (.int .i64 0)
  c5 : w.cell? ⟨g, 5, none⟩ = some (.string ⟨#[]⟩)
  c6 : w.cell? ⟨g, 6, none⟩ = some (.int .u64 2)
  c7 : w.cell? ⟨g, 7, none⟩ = some (.int .u64 0)
theorem Two.lt {w : World} {g : Nat} (h : Two w g) : g < w.heap.size := World.block_lt_of_cell? w _ h.c0
theorem Two.below {w w' : World} {g B : Nat} (h : Two w g) (hg : g < B) (hb : Below B w w') : Two w' g :=
  ⟨by rw [hb.cell (p := ⟨g, _, none⟩) hg]; exact h.c0, by rw [hb.cell (p := ⟨g, _, none⟩) hg]; exact h.c1, by rw [hb.cell (p := ⟨g, _, none⟩) hg]; exact h.c2, by rw [hb.cell (p := ⟨g, _, none⟩) hg]; exact h.c3, by rw [hb.cell (p := ⟨g, _, none⟩) hg]; exact h.c4, by rw [hb.cell (p := ⟨g, _, none⟩) hg]; exact h.c5, by rw [hb.cell (p := ⟨g, _, none⟩) hg]; exact h.c6, by rw [hb.cell (p := ⟨g, _, none⟩) hg]; exact h.c7⟩
set_option maxRecDepth 100000 in
set_option maxHeartbeats 4000000 in
theorem inTurn_two {w : World} {g c : Nat} (h : Two w g) (hc : 2 ≤ c) (hm : c ≤ maxLen) : Calls Try.prog 26 #[.int .i64 10, .slice (some ⟨g, 0, none⟩) 2 c] w fun e w' => ∃ v, e = .returned v ∧ OwnS w' w.heap.size v [⟨sA, 0, 3⟩, ⟨sN, 3, 10⟩] ∧ Below w.heap.size w w' := by
  unfold maxLen at hm
  have HT := Lib.hid h
  have hci : (2 : Int) ≤ (c : Int) := by omega
  have HR0 : Hid (Rw (w.alloc (.cells #[.slice none 0 0] 70)) w.heap.size w.heap.size (.slice none 0 0) []) := ⟨Array.getElem?_push_size (xs := w.heap), OwnS.nil _ _, Nat.le_refl _, fun e => by cases e⟩
  have HB0 : Hid (Below w.heap.size w (w.alloc (.cells #[.slice none 0 0] 70))) := (Below.refl _ _).alloc (Nat.le_refl _) _
  clear h
  go_enter Try.func26, Try.ntmps26
  go_wp2_with fail
  go_loopw [10] (fun iv wr => Hid (Below w.heap.size w wr) ∧ ((iv = .int .i64 0 ∧ Hid (Rw wr w.heap.size w.heap.size (.slice none 0 0) [])) ∨ (iv = .int .i64 1 ∧ ∃ v, Hid (Rw wr w.heap.size w.heap.size v [⟨sA, 0, 3⟩])) ∨ (iv = .int .i64 2 ∧ ∃ v, Hid (Rw wr w.heap.size w.heap.size v [⟨sA, 0, 3⟩, ⟨sN, 3, 5⟩])))) (fun iv _ => 2 - (intOf iv).toNat)
  case atStart => exact ⟨HB0, .inl ⟨rfl, HR0⟩⟩
  case round =>
    clear HR0 HB0
    obtain ⟨HB, ⟨rfl, HR⟩ | ⟨rfl, v, HR⟩ | ⟨rfl, v, HR⟩⟩ := hrel
    · obtain ⟨c0, c1, c2, c3, c4, c5, c6, c7⟩ := HT.out.below HT.out.lt HB.out
      go_wp2_with fail
      have ha : Below wr.heap.size wr (wr.alloc (.cells #[.int .i64 0, .string ⟨#[97]⟩, .int .u64 3, .int .u64 0] 30)) := (Below.refl _ _).alloc (Nat.le_refl _) _
      refine (add_first (s := sA) (n := 3) (HR.out.below ha) (Nat.le_trans HB.out.size ha.size) (by omega) (by omega)).mono ?_
      rintro e w5 ⟨rfl, v5, hr5, hb5⟩
      have HR5 := Lib.hid hr5
      have HB5 : Hid (Below w.heap.size w w5) := (HB.out.trans (ha.mono HB.out.size)).trans hb5
      clear ha hr5 hb5
      go_wp2_with fail
      go_roundw
      case rel => exact ⟨HB5, .inr (.inl ⟨rfl, v5, HR5⟩)⟩
      case measure => simp [intOf]
    · obtain ⟨c0, c1, c2, c3, c4, c5, c6, c7⟩ := HT.out.below HT.out.lt HB.out
      go_wp2_with fail
      have ha : Below wr.heap.size wr (wr.alloc (.cells #[.int .i64 0, .string ⟨#[]⟩, .int .u64 2, .int .u64 0] 30)) := (Below.refl _ _).alloc (Nat.le_refl _) _
      refine (add_next (s := sN) (n := 2) (ys := []) (l := ⟨sA, 0, 3⟩) (HR.out.below ha) (Nat.le_trans HB.out.size ha.size) (by omega) (by omega) (by decide) (by decide) (by kernel_rfl) (by decide)).mono ?_
      rintro e w5 ⟨rfl, v5, hr5, hb5⟩
      have HR5 : Hid (Rw w5 w.heap.size w.heap.size v5 [⟨sA, 0, 3⟩, ⟨sN, 3, 5⟩]) := hr5
      have HB5 : Hid (Below w.heap.size w w5) := (HB.out.trans (ha.mono HB.out.size)).trans hb5
      clear ha hr5 hb5
      go_wp2_with fail
      go_roundw
      case rel => exact ⟨HB5, .inr (.inr ⟨rfl, v5, HR5⟩)⟩
      case measure => simp [intOf]
    · obtain ⟨g1, cap1, rfl, hg1, hg2, hc1, hm1⟩ := HR.out.own.pos (by decide)
      have x0 := HR.out.cell
      have e2 := HR.out.own.cell 1 2 (by decide) (by decide)
      have HE := Lib.hid (end_some (w := wr) (n := 1) (t := 5) x0 rfl hc1 hm1 e2)
      clear x0 e2
      go_wp2_with fail
      refine HE.out.mono ?_
      rintro e w5 ⟨rfl, hw5⟩
      subst hw5
      have hr6 : Rw wr.drew w.heap.size w.heap.size _ ([⟨sA, 0, 3⟩] ++ [⟨sN, 3, 5⟩]) := HR.out.drew
      have HG := Lib.hid (add_grow (n := 5) hr6 (by decide) (by decide))
      clear hr6 HE
      go_wp2_with fail
      refine HG.out.mono ?_
      rintro e w6 ⟨rfl, v6, hr6, hb6⟩
      have HB6 : Hid (Below w.heap.size w w6) := HB.out.trans ((Below.refl _ _).drew.trans hb6)
      have HO6 : Hid (OwnS w6 w.heap.size v6 [⟨sA, 0, 3⟩, ⟨sN, 3, 10⟩]) := hr6.own
      have x6 := hr6.cell
      clear HG hr6 hb6
      go_wp2_with fail
      go_ret
      exact ⟨_, rfl, HO6.out, HB6.out⟩
set_option maxRecDepth 100000 in
set_option maxHeartbeats 1000000 in
theorem wants_run {m b p : Nat} {s : ByteArray} {q : Int} (h1 : 1 ≤ b) (h2 : b ≤ m) (w : World) : Calls Try.prog 33 #[.int .u64 (m : Int), .bool false, .agg #[.int .i64 q, .string s, .int .u64 (b : Int), .int .u64 (p : Int)]] w fun e w' => e = .returned (.tuple #[.int .u64 (b : Int), .int .i64 0]) ∧ Below w.heap.size w w' := by
  have h3 : ¬ (m : Int) < (b : Int) := by omega
  have h4 : (b : Int) ≠ 0 := by omega
  go_enter Try.func33, Try.ntmps33
  go_wp2_with fail
  go_ret2
  exact ⟨rfl, (Below.refl _ _).alloc (Nat.le_refl _) _⟩
set_option maxHeartbeats 1000000 in
theorem framed_ten (w : World) : Calls Try.prog 24 #[.int .u64 10] w fun e w' => e = .returned (.bool true) ∧ w' = w := by
  go_enter Try.func24, Try.ntmps24
  go_wp2_with fail
  go_ret
  exact ⟨rfl, rfl⟩
set_option maxHeartbeats 1000000 in
theorem framed_zero (w : World) : Calls Try.prog 24 #[.int .u64 0] w fun e w' => e = .returned (.bool false) ∧ w' = w := by
  go_enter Try.func24, Try.ntmps24
  go_wp2_with fail
  go_ret
  exact ⟨rfl, rfl⟩
theorem cell_alloc {w : World} {k i : Nat} {v : Value} (h : w.cell? ⟨k, i, none⟩ = some v) (X : Obj) : (w.alloc X).cell? ⟨k, i, none⟩ = some v := by
  have hl := World.block_lt_of_cell? w _ h
  rw [((Below.refl w.heap.size w).alloc (Nat.le_refl _) X).cell (p := ⟨k, i, none⟩) hl]
  exact h
set_option maxRecDepth 100000 in
set_option maxHeartbeats 4000000 in
theorem refused_two {w : World} {g c : Nat} (h : Two w g) (hc : 2 ≤ c) (hm : c ≤ maxLen) : Calls Try.prog 25 #[.int .u64 10, .agg #[.int .i64 0, .int .u64 0, .bool false, .slice (some ⟨g, 0, none⟩) 2 c]] w fun e w' => e = .returned (.tuple #[.int .i64 0, .int .i64 0]) ∧ Below w.heap.size w w' := by
  unfold maxLen at hm
  have HT := Lib.hid h
  have hci : (2 : Int) ≤ (c : Int) := by omega
  have HB0 : Hid (Below w.heap.size w (w.alloc (.cells #[.int .i64 0, .int .u64 0, .bool false, .slice (some ⟨g, 0, none⟩) 2 c] 25))) := (Below.refl _ _).alloc (Nat.le_refl _) _
  have HX0 : Hid ((w.alloc (.cells #[.int .i64 0, .int .u64 0, .bool false, .slice (some ⟨g, 0, none⟩) 2 c] 25)).heap[w.heap.size]? = some (.cells #[.int .i64 0, .int .u64 0, .bool false, .slice (some ⟨g, 0, none⟩) 2 c] 25 (0, 0))) := Array.getElem?_push_size (xs := w.heap)
  have HW1 : Hid (∀ W, Calls Try.prog 33 #[.int .u64 10, .bool false, .agg #[.int .i64 0, .string ⟨#[97]⟩, .int .u64 3, .int .u64 0]] W fun e w' => e = .returned (.tuple #[.int .u64 3, .int .i64 0]) ∧ Below W.heap.size W w') := fun W => wants_run (m := 10) (b := 3) (p := 0) (by omega) (by omega) W
  have HW2 : Hid (∀ W, Calls Try.prog 33 #[.int .u64 10, .bool false, .agg #[.int .i64 0, .string ⟨#[]⟩, .int .u64 2, .int .u64 0]] W fun e w' => e = .returned (.tuple #[.int .u64 2, .int .i64 0]) ∧ Below W.heap.size W w') := fun W => wants_run (m := 10) (b := 2) (p := 0) (by omega) (by omega) W
  clear h
  go_enter Try.func25, Try.ntmps25
  go_wp2_with fail
  go_loopw [6, 15] (fun lv iv wr => Hid (Below w.heap.size w wr) ∧ Hid (wr.heap[w.heap.size]? = some (.cells #[.int .i64 0, .int .u64 0, .bool false, .slice (some ⟨g, 0, none⟩) 2 c] 25 (0, 0))) ∧ ((iv = .int .i64 0 ∧ lv = .int .u64 10) ∨ (iv = .int .i64 1 ∧ lv = .int .u64 7) ∨ (iv = .int .i64 2 ∧ lv = .int .u64 5))) (fun _ iv _ => 2 - (intOf iv).toNat)
  case atStart => exact ⟨HB0, HX0, .inl ⟨rfl, rfl⟩⟩
  case round =>
    clear HB0 HX0
    obtain ⟨HB, HX, ⟨rfl, rfl⟩ | ⟨rfl, rfl⟩ | ⟨rfl, rfl⟩⟩ := hrel
    · obtain ⟨c0, c1, c2, c3, c4, c5, c6, c7⟩ := HT.out.below HT.out.lt HB.out
      have y2 : wr.cell? ⟨w.heap.size, 2, none⟩ = some (.bool false) := by rw [cell_of_row _ _ _ _ _ _ HX.out]; rfl
      have y3 := cell_alloc y2 (.cells #[.int .i64 0, .string ⟨#[97]⟩, .int .u64 3, .int .u64 0] 30)
      clear y2
      go_wp2_with fail
      refine (HW1.out _).mono ?_
      rintro e w5 ⟨rfl, hb5⟩
      have ha : Below wr.heap.size wr w5 := ((Below.refl _ _).alloc (Nat.le_refl _) _).trans (hb5.mono (by simp))
      have HB5 : Hid (Below w.heap.size w w5) := HB.out.trans (ha.mono HB.out.size)
      have HX5 : Hid (w5.heap[w.heap.size]? = some (.cells #[.int .i64 0, .int .u64 0, .bool false, .slice (some ⟨g, 0, none⟩) 2 c] 25 (0, 0))) := (ha.block w.heap.size (Array.getElem?_eq_some_iff.1 HX.out).1).trans HX.out
      clear ha hb5
      go_wp2_with fail
      go_roundw
      case rel => exact ⟨HB5, HX5, .inr (.inl ⟨rfl, rfl⟩)⟩
      case measure => simp [intOf]
    · obtain ⟨c0, c1, c2, c3, c4, c5, c6, c7⟩ := HT.out.below HT.out.lt HB.out
      have y2 : wr.cell? ⟨w.heap.size, 2, none⟩ = some (.bool false) := by rw [cell_of_row _ _ _ _ _ _ HX.out]; rfl
      have y3 := cell_alloc y2 (.cells #[.int .i64 0, .string ⟨#[]⟩, .int .u64 2, .int .u64 0] 30)
      clear y2
      go_wp2_with fail
      refine (HW2.out _).mono ?_
      rintro e w5 ⟨rfl, hb5⟩
      have ha : Below wr.heap.size wr w5 := ((Below.refl _ _).alloc (Nat.le_refl _) _).trans (hb5.mono (by simp))
      have HB5 : Hid (Below w.heap.size w w5) := HB.out.trans (ha.mono HB.out.size)
      have HX5 : Hid (w5.heap[w.heap.size]? = some (.cells #[.int .i64 0, .int .u64 0, .bool false, .slice (some ⟨g, 0, none⟩) 2 c] 25 (0, 0))) := (ha.block w.heap.size (Array.getElem?_eq_some_iff.1 HX.out).1).trans HX.out
      clear ha hb5
      go_wp2_with fail
      go_roundw
      case rel => exact ⟨HB5, HX5, .inr (.inr ⟨rfl, rfl⟩)⟩
      case measure => simp [intOf]
    · go_wp2_with fail
      go_ret2
      exact ⟨rfl, HB.out⟩
end Go.Proofs.Ytkhlkbgolonkkaa
