import Derived.Test.YtlplbbnicfeoaaaGreatPq49
/- Pages: PagesTold, the walk. Own work. -/
namespace Go.Proofs.YtlplbbnicfeoaaaGreat
open Go.RowKit Wk
set_option linter.unusedVariables false
def lfE : L6 := ⟨12288, 32768, 2, false, false, true⟩
theorem lfE_tabs : tabsF 1 0 0 [lfE] = 3 := by decide
theorem lfE_refu : refuF 0 [lfE] = 0 := by decide
theorem lfE_why : whyF [lfE] 8192 = 0 := by
  have hc : countF [lfE] = (3, 0) := by
    unfold countF
    rw [lfE_refu, lfE_tabs]
    rfl
  unfold whyF
  rw [hc, if_neg (by decide), if_neg (by decide), if_neg (by decide)]
theorem Lv.of_E {w : World} : Lv (w.alloc (.cells #[.int .u64 12288, .int .u64 32768, .int .i64 2, .bool false, .bool false, .bool true] 26)) (.slice (some ⟨w.heap.size, 0, none⟩) 1 1) [lfE] := by
  have h : LfAt (w.alloc (.cells #[.int .u64 12288, .int .u64 32768, .int .i64 2, .bool false, .bool false, .bool true] 26)) w.heap.size lfE := heap_alloc_new w _
  obtain ⟨c0, c1, c2, c3, c4, c5⟩ := h.cells
  refine ⟨some ⟨w.heap.size, 0, none⟩, 1, rfl, Nat.le_refl _, by unfold maxLen; omega, (fun x hx => by rw [List.mem_singleton.1 hx]; unfold L6.ok lfE; decide), fun i hi => ?_⟩
  have hi0 : i = 0 := by simp at hi; exact hi
  subst hi0
  exact ⟨w.heap.size, 0, rfl, c0, c1, c2, c3, c4, c5⟩
set_option maxRecDepth 100000 in
set_option maxHeartbeats 4000000 in
theorem pagesTold_walk {w : World} {v : Value} {xs : List L6} {base : Nat} (h : Lv w v xs) (hb : base ≤ 18446744073709551615) : Calls Tryz.prog 4 #[v, .int .u64 (base : Int)] w fun e w' => e = .returned (.bool true) ∧ Below w.heap.size w w' := by
  have HR := Lib.hid h
  have HL1 := Lib.hid (Lv.of_E (w := w))
  have HB1 : Hid (Below w.heap.size w (w.alloc (.cells #[.int .u64 12288, .int .u64 32768, .int .i64 2, .bool false, .bool false, .bool true] 26))) := (Below.refl _ _).alloc (Nat.le_refl _) _
  have HT1 : Hid (∀ W vc, Lv W vc [lfE] → Calls Tryz.prog 11 #[vc, .int .u64 8192, .bool true] W fun e w' => e = .returned (.bool true) ∧ Below W.heap.size W w') := fun W vc hW => told_any (base := 8192) hW (by decide) (fun _ => ⟨lfE_why, by decide, by decide⟩)
  have HT2 : Hid (∀ W, Lv W v xs → Calls Tryz.prog 11 #[v, .int .u64 (base : Int), .bool false] W fun e w' => e = .returned (.bool true) ∧ Below W.heap.size W w') := fun W hW => told_any hW hb (fun e => by cases e)
  obtain ⟨ao, cap, rfl, q1, q2, q3, q9⟩ := h
  clear q9 q3
  go_enter Tryz.func4, Tryz.ntmps4
  go_wp2_with fail
  generalize (w.alloc (.cells #[.int .u64 12288, .int .u64 32768, .int .i64 2, .bool false, .bool false, .bool true] 26)) = w1 at *
  refine (HT1.out _ _ HL1.out).mono ?_
  rintro e w2 ⟨rfl, hb2⟩
  have HB2 := Lib.hid (HB1.out.trans (hb2.mono HB1.out.size))
  clear hb2 HB1 HT1 HL1
  go_wp2_with fail
  refine (HT2.out _ (HR.out.below HB2.out)).mono ?_
  rintro e w3 ⟨rfl, hb3⟩
  have HB3 := Lib.hid (HB2.out.trans (hb3.mono HB2.out.size))
  clear hb3 HB2 HT2
  go_wp2_with fail
  go_ret
  exact ⟨rfl, HB3.out⟩
end Go.Proofs.YtlplbbnicfeoaaaGreat
