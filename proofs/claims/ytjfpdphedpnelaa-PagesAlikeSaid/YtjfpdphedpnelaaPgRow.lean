/- Pages: begun; row at the page of PagesNames. Own work. -/
import Derived.Test.YtjfpdphedpnelaaPgDown
namespace Go.Proofs.Ytjfpdphedpnelaa
open Go.RowKit Wk
set_option linter.unusedVariables false
set_option maxRecDepth 100000 in
set_option maxHeartbeats 4000000 in
theorem begun_any {w : World} {G m a : Nat} (hm : m + 1 ≤ 1024) (ha : a + 4096 ≤ 18446744073709551615) : Calls Try.prog 31 #[.slice (some ⟨G, 0, none⟩) (m + 1) (m + 1), .int .u64 (a : Int)] w fun e w' => e = .returned (.pointer (some ⟨w.heap.size, 0, none⟩)) ∧ (∃ r, Bb w' w.heap.size (win G 0) (.slice none 0 0) (.slice none 0 0) r (a + 4096) ∧ (m ≠ 0 → r = .slice (some ⟨G, 512, none⟩) m m)) ∧ Below w.heap.size w w' := by
  have HB0 : Hid (Bb (w.alloc (.cells #[.slice none 0 0, .slice none 0 0, .slice none 0 0, .slice (some ⟨G, 0, none⟩) (m + 1) (m + 1), .int .u64 (a : Int)] 87)) w.heap.size (.slice none 0 0) (.slice none 0 0) (.slice none 0 0) (.slice (some ⟨G, 0, none⟩) (m + 1) (m + 1)) a) := heap_alloc_new w _
  have HBl : Hid (Below w.heap.size w (w.alloc (.cells #[.slice none 0 0, .slice none 0 0, .slice none 0 0, .slice (some ⟨G, 0, none⟩) (m + 1) (m + 1), .int .u64 (a : Int)] 87))) := (Below.refl _ _).alloc (Nat.le_refl _) _
  go_enter Try.func31, Try.ntmps31
  go_wp2_with fail
  refine (begin0 (m := m) HB0.out hm ha).mono ?_
  rintro e w1 ⟨rfl, r, hb1, hr, hk⟩
  have hbl : Below w.heap.size w w1 := HBl.out.trans (hk.below (by simp) (fun i _ e => by omega))
  have HB1 := Lib.hid hb1
  have HBl1 := Lib.hid hbl
  clear hb1 hk hbl HB0 HBl
  go_wp2_with fail
  go_ret
  exact ⟨rfl, ⟨r, HB1.out, fun e => by rw [hr e, Nat.zero_add]⟩, HBl1.out⟩
/-- a leaf in its block -/
def LfAt (w : World) (b : Nat) (x : L6) : Prop := w.heap[b]? = some (.cells #[.int .u64 (x.v : Int), .int .u64 (x.p : Int), .int .i64 x.n, .bool x.big, .bool x.wr, .bool x.ex] 34 (0, 0))
theorem LfAt.lt {w : World} {b : Nat} {x : L6} (h : LfAt w b x) : b < w.heap.size := (Array.getElem?_eq_some_iff.1 h).1
theorem LfAt.keeps {S : Nat → Prop} {w w' : World} {b : Nat} {x : L6} (h : LfAt w b x) (k : Keeps S w w') (hn : ¬ S b) : LfAt w' b x := (k.block b h.lt hn).trans h
theorem LfAt.below {w w' : World} {b : Nat} {x : L6} (h : LfAt w b x) (hb : Below w.heap.size w w') : LfAt w' b x := (hb.block b h.lt).trans h
theorem LfAt.cells {w : World} {b : Nat} {x : L6} (h : LfAt w b x) : w.cell? ⟨b, 0, none⟩ = some (.int .u64 (x.v : Int)) ∧ w.cell? ⟨b, 1, none⟩ = some (.int .u64 (x.p : Int)) ∧ w.cell? ⟨b, 2, none⟩ = some (.int .i64 x.n) ∧ w.cell? ⟨b, 3, none⟩ = some (.bool x.big) ∧ w.cell? ⟨b, 4, none⟩ = some (.bool x.wr) ∧ w.cell? ⟨b, 5, none⟩ = some (.bool x.ex) := by
  have h' : w.heap[b]? = _ := h
  refine ⟨?_, ?_, ?_, ?_, ?_, ?_⟩ <;> simp [World.cell?, h']
/-- PagesNames' page -/
def lfC : L6 := ⟨12288, 32768, 1, false, true, false⟩
set_option maxRecDepth 100000 in
set_option maxHeartbeats 4000000 in
theorem row_C {w : World} {B G : Nat} {o1 o2 : Value} (h : Bb w B (win G 0) o1 o2 (.slice (some ⟨G, 512, none⟩) 2 2) 69632) (hG : GAt w G 3 (fun _ => 0)) (hne : B ≠ G) : Calls Try.prog 32 #[.pointer (some ⟨B, 0, none⟩), V6 lfC] w fun e w' => e = .returned (.tuple #[]) ∧ GAt w' G 3 mC ∧ Keeps (fun q => q = B ∨ q = G) w w' := by
  have HL : Hid (LfAt (w.alloc (.cells #[.int .u64 12288, .int .u64 32768, .int .i64 1, .bool false, .bool true, .bool false] 34)) w.heap.size lfC) := heap_alloc_new w _
  have HBl : Hid (Below w.heap.size w (w.alloc (.cells #[.int .u64 12288, .int .u64 32768, .int .i64 1, .bool false, .bool true, .bool false] 34))) := (Below.refl _ _).alloc (Nat.le_refl _) _
  have HSz : Hid (∀ W, Calls Try.prog 44 #[.agg #[.int .u64 12288, .int .u64 32768, .int .i64 1, .bool false, .bool true, .bool false]] W fun e w' => e = .returned (.int .u64 4096) ∧ Below W.heap.size W w') := fun W => size_any (x := lfC) (m := 1) rfl (by omega) W
  have HUn : Hid (∀ W, Calls Try.prog 45 #[.agg #[.int .u64 12288, .int .u64 32768, .int .i64 1, .bool false, .bool true, .bool false]] W fun e w' => e = .returned (.int .u64 4096) ∧ Below W.heap.size W w') := fun W => unit_any lfC W
  have HLv : Hid (∀ W, Calls Try.prog 43 #[.bool false] W fun e w' => e = .returned (.int .i64 2) ∧ w' = W) := fun W => leafLevel_any false W
  have HS2 : Hid (∀ {W : World} {o0 o1 r : Value} {a : Nat}, Bb W B o0 o1 (win G 1024) r a → GAt W G 3 mB → Calls Try.prog 47 #[.pointer (some ⟨B, 0, none⟩), .int .u64 12288, .int .i64 2, .agg #[.int .u64 32768, .bool false, .bool false, .bool true, .bool false]] W fun e w' => e = .returned (.tuple #[]) ∧ GAt w' G 3 mC ∧ Keeps (fun q => q = G) W w') := fun hb hg => set2 (k := 2) (v := 12288) (x := (32768, false, false, true, false)) (rw' := 32771) hb hg (by omega) hne (by decide) (by decide)
  have HB := Lib.hid h
  have HG := Lib.hid hG
  clear h hG
  unfold V6 lfC
  simp only
  go_enter Try.func32, Try.ntmps32
  go_wp2_with fail
  refine (HLv.out _).mono ?_
  rintro e w1 ⟨rfl, rfl⟩
  have hXB : w.heap.size ≠ B := Nat.ne_of_gt HB.out.lt
  have hXG : w.heap.size ≠ G := Nat.ne_of_gt HG.out.lt
  have HB1 := Lib.hid (HB.out.below HBl.out)
  have HG1 := Lib.hid (HG.out.below HBl.out)
  have HK1 := Lib.hid (Keeps.of_below (S := fun q => q = B ∨ q = G) HBl.out)
  generalize (w.alloc (.cells #[.int .u64 12288, .int .u64 32768, .int .i64 1, .bool false, .bool true, .bool false] 34)) = w1 at *
  clear HBl HB HG
  generalize w.heap.size = X at *
  obtain ⟨c0, c1, c2, c3, c4, c5⟩ : w1.cell? ⟨X, 0, none⟩ = some (.int .u64 12288) ∧ w1.cell? ⟨X, 1, none⟩ = some (.int .u64 32768) ∧ w1.cell? ⟨X, 2, none⟩ = some (.int .i64 1) ∧ w1.cell? ⟨X, 3, none⟩ = some (.bool false) ∧ w1.cell? ⟨X, 4, none⟩ = some (.bool true) ∧ w1.cell? ⟨X, 5, none⟩ = some (.bool false) := HL.out.cells
  go_wp2_with fail
  refine wp_loop_rounds 2 ?_
  rw [rounds_succ]
  go_wp2_with fail
  refine (HSz.out _).mono ?_
  rintro e w2 ⟨rfl, hb2⟩
  have HL2 := Lib.hid (HL.out.below hb2)
  have HB2 := Lib.hid (HB1.out.below hb2)
  have HG2 := Lib.hid (HG1.out.below hb2)
  have HK2 := Lib.hid (HK1.out.trans (Keeps.of_below (S := fun _ => False) hb2) (fun _ _ e => e.elim))
  clear hb2 HL HB1 HG1 HK1 c0 c1 c2 c3 c4 c5
  obtain ⟨c0, c1, c2, c3, c4, c5⟩ : w2.cell? ⟨X, 0, none⟩ = some (.int .u64 12288) ∧ w2.cell? ⟨X, 1, none⟩ = some (.int .u64 32768) ∧ w2.cell? ⟨X, 2, none⟩ = some (.int .i64 1) ∧ w2.cell? ⟨X, 3, none⟩ = some (.bool false) ∧ w2.cell? ⟨X, 4, none⟩ = some (.bool true) ∧ w2.cell? ⟨X, 5, none⟩ = some (.bool false) := HL2.out.cells
  go_wp2_with fail
  refine (down_C HB2.out HG2.out hne).mono ?_
  rintro e w3 ⟨rfl, ⟨r, hb3⟩, hg3, hk3⟩
  have HL3 := Lib.hid (HL2.out.keeps hk3 (fun e => e.elim hXB hXG))
  have HB3 := Lib.hid hb3
  have HG3 := Lib.hid hg3
  have HK3 := Lib.hid (HK2.out.trans hk3 (fun _ _ e => e))
  clear hb3 hg3 hk3 HL2 HB2 HG2 HK2 c0 c1 c2 c3 c4 c5
  obtain ⟨c0, c1, c2, c3, c4, c5⟩ : w3.cell? ⟨X, 0, none⟩ = some (.int .u64 12288) ∧ w3.cell? ⟨X, 1, none⟩ = some (.int .u64 32768) ∧ w3.cell? ⟨X, 2, none⟩ = some (.int .i64 1) ∧ w3.cell? ⟨X, 3, none⟩ = some (.bool false) ∧ w3.cell? ⟨X, 4, none⟩ = some (.bool true) ∧ w3.cell? ⟨X, 5, none⟩ = some (.bool false) := HL3.out.cells
  go_wp2_with fail
  refine (HS2.out HB3.out HG3.out).mono ?_
  rintro e w4 ⟨rfl, hg4, hk4⟩
  have HL4 := Lib.hid (HL3.out.keeps hk4 hXG)
  have HG4 := Lib.hid hg4
  have HK4 := Lib.hid (HK3.out.trans hk4 (fun _ _ e => Or.inr e))
  clear hg4 hk4 HL3 HB3 HG3 HK3 c0 c1 c2 c3 c4 c5
  obtain ⟨c0, c1, c2, c3, c4, c5⟩ : w4.cell? ⟨X, 0, none⟩ = some (.int .u64 12288) ∧ w4.cell? ⟨X, 1, none⟩ = some (.int .u64 32768) ∧ w4.cell? ⟨X, 2, none⟩ = some (.int .i64 1) ∧ w4.cell? ⟨X, 3, none⟩ = some (.bool false) ∧ w4.cell? ⟨X, 4, none⟩ = some (.bool true) ∧ w4.cell? ⟨X, 5, none⟩ = some (.bool false) := HL4.out.cells
  go_wp2_with fail
  refine (HUn.out _).mono ?_
  rintro e w5 ⟨rfl, hb5⟩
  have HL5 := Lib.hid (HL4.out.below hb5)
  have HG5 := Lib.hid (HG4.out.below hb5)
  have HK5 := Lib.hid (HK4.out.trans (Keeps.of_below (S := fun _ => False) hb5) (fun _ _ e => e.elim))
  clear hb5 HL4 HG4 HK4 c0 c1 c2 c3 c4 c5
  obtain ⟨c0, c1, c2, c3, c4, c5⟩ : w5.cell? ⟨X, 0, none⟩ = some (.int .u64 12288) ∧ w5.cell? ⟨X, 1, none⟩ = some (.int .u64 32768) ∧ w5.cell? ⟨X, 2, none⟩ = some (.int .i64 1) ∧ w5.cell? ⟨X, 3, none⟩ = some (.bool false) ∧ w5.cell? ⟨X, 4, none⟩ = some (.bool true) ∧ w5.cell? ⟨X, 5, none⟩ = some (.bool false) := HL5.out.cells
  go_wp2_with fail
  rw [rounds_succ]
  go_wp2_with fail
  refine (HSz.out _).mono ?_
  rintro e w6 ⟨rfl, hb6⟩
  have HG6 := Lib.hid (HG5.out.below hb6)
  have HK6 := Lib.hid (HK5.out.trans (Keeps.of_below (S := fun _ => False) hb6) (fun _ _ e => e.elim))
  clear hb6 HG5 HK5
  go_wp2_with fail
  go_end0
  exact ⟨rfl, HG6.out, HK6.out⟩
end Go.Proofs.Ytjfpdphedpnelaa
