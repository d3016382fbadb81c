/- Covers, Has, Next, Touches, Same. Own work. -/
import Derived.Test.YtehedllcdpjebaaSpFromU64
import Derived.Laws.StructEq
import Derived.Test.YtehedllcdpjebaaSpMath2
namespace Go.Proofs.Ytehedllcdpjebaa.U64
open Go.RowKit Go.Shelf Go.Proofs.Ytehedllcdpjebaa.Sp

set_option maxHeartbeats 2000000 in
theorem covers_any {w : World} {v : Value} {xs : List Sp} {x : Sp} (hv : SV w v xs) (hc : Canon 18446744073709551615 xs) (hl : xs.length ≤ 1152921504606846976) :
    Calls Try.prog 74 #[.agg #[v], .agg #[.int .u64 x.1, .int .u64 x.2]] w fun e w' => e = .returned (.bool (coversB xs x)) ∧ Below w.heap.size w w' := by
  have HB0 : Hid (∀ a b c, Below w.heap.size w (((w.alloc a).alloc b).alloc c)) := fun a b c => (((Below.refl _ _).alloc (Nat.le_refl _) _).alloc (by simp) _).alloc (by simp; omega) _
  have HV : Hid (SV w v xs) := hv
  have HC : Hid (Canon 18446744073709551615 xs) := hc
  have d0 := fun X : Obj => cell_alloc' X (cell_alloc' (w := w.alloc (Obj.cells #[v] 77)) (Obj.cells #[.int .u64 x.1, .int .u64 x.2] 102) (show (w.alloc (Obj.cells #[v] 77)).cell? ⟨w.heap.size, 0, none⟩ = some v by rw [cell_of_row _ _ 0 _ _ _ (heap_alloc_new w _)]; rfl))
  have d1 := fun X : Obj => cell_alloc' X (new2 (W := w.alloc (Obj.cells #[v] 77)) (n := w.heap.size + 1) (by simp) (.int .u64 x.1) (.int .u64 x.2) 102).1
  have d2 := fun X : Obj => cell_alloc' X (new2 (W := w.alloc (Obj.cells #[v] 77)) (n := w.heap.size + 1) (by simp) (.int .u64 x.1) (.int .u64 x.2) 102).2
  clear hv hc
  by_cases he : x.2 < x.1
  · have hs : coversB xs x = true := by simp [coversB, he]
    rw [hs]
    have hd : decide (x.2 < x.1) = true := decide_eq_true he
    clear hs
    go_enter Try.func74, Try.ntmps74
    go_wp2_with fail
    refine (empty_any x _).mono ?_
    rintro e w' ⟨rfl, X, rfl⟩
    rw [hd]
    go_wp2_with fail
    go_ret
    exact ⟨rfl, HB0.out _ _ _⟩
  · have hd : decide (x.2 < x.1) = false := decide_eq_false he
    obtain ⟨b, hb⟩ : ∃ b, b = coversB xs x := ⟨_, rfl⟩
    rw [← hb]
    have HR : Hid (b = coversB xs x) := hb
    clear hb
    go_enter Try.func74, Try.ntmps74
    go_wp2_with fail
    refine (empty_any x _).mono ?_
    rintro e w' ⟨rfl, X, rfl⟩
    rw [hd]
    go_wp2_with fail
    refine (from_any (p := x.1) (HV.out.below (HB0.out _ _ _) (Nat.le_refl _)) HC.out hl).mono ?_
    rintro e w2 ⟨v2, rfl, h2, hb2⟩
    have h2' := h2 _ (HV.out.below ((HB0.out (Obj.cells #[v] 77) (Obj.cells #[.int .u64 x.1, .int .u64 x.2] 102) X).trans (hb2.mono (by simp; omega))) (Nat.le_refl _))
    have HB2 : Hid (Below w.heap.size w w2) := (HB0.out (Obj.cells #[v] 77) (Obj.cells #[.int .u64 x.1, .int .u64 x.2] 102) X).trans (hb2.mono (by simp; omega))
    have e1 : w2.cell? ⟨w.heap.size + 1, 0, none⟩ = some (.int .u64 x.1) := (hb2.cell (p := ⟨w.heap.size + 1, 0, none⟩) (by simp)).trans (d1 X)
    have e2 : w2.cell? ⟨w.heap.size + 1, 1, none⟩ = some (.int .u64 x.2) := (hb2.cell (p := ⟨w.heap.size + 1, 1, none⟩) (by simp)).trans (d2 X)
    clear h2 hb2 d0 d1 d2
    obtain ⟨ao, cap, rfl, _, _, _, _, h5⟩ := h2'
    cases hr : restAt x.1 xs with
    | nil =>
      rw [hr] at h5
      clear h5
      simp only [List.length_nil]
      have HE : Hid (b = false) := show b = false by rw [HR.out, coversB, if_neg (show ¬ x.2 < x.1 by omega), hr]
      clear hr
      go_wp2_with fail
      go_quiet (fail)
      go_wp2_with fail
      go_ret
      exact ⟨by rw [HE.out]; rfl, below_drewN' HB2.out _⟩
    | cons y r =>
      rw [hr] at h5
      obtain ⟨g, off, rfl, c0, c1⟩ := h5 0 (by simp)
      simp only [List.getElem_cons_zero, Nat.zero_mul, Nat.add_zero] at c0 c1
      simp only [List.length_cons]
      have HE : Hid (b = (decide (y.1 ≤ x.1) && decide (x.2 ≤ y.2))) := show b = _ by rw [HR.out, coversB, if_neg (show ¬ x.2 < x.1 by omega), hr]
      clear h5 hr
      by_cases h1 : y.1 ≤ x.1
      · have hd1 : decide (y.1 ≤ x.1) = true := decide_eq_true h1
        go_wp2_with fail
        go_quiet (fail)
        go_wp2_with fail
        go_ret
        exact ⟨by rw [HE.out, hd1]; rfl, below_drewN' HB2.out _⟩
      · have hd1 : decide (y.1 ≤ x.1) = false := decide_eq_false h1
        go_wp2_with fail
        go_quiet (fail)
        go_wp2_with fail
        go_ret
        exact ⟨by rw [HE.out, hd1]; rfl, below_drewN' HB2.out _⟩

set_option maxHeartbeats 1000000 in
theorem next_any {w : World} {v : Value} {xs : List Sp} {p : Int} (hv : SV w v xs) (hc : Canon 18446744073709551615 xs) (hl : xs.length ≤ 1152921504606846976) :
    Calls Try.prog 61 #[.agg #[v], .int .u64 p] w fun e w' => e = .returned (.tuple #[.int .u64 (nextB p xs).1, .bool (nextB p xs).2]) ∧ Below w.heap.size w w' := by
  have HV : Hid (∀ X, SV (w.alloc X) v xs) := fun X => hv.alloc X
  have HC : Hid (∀ X, Calls Try.prog 76 #[.agg #[v], .int .u64 p] (w.alloc X) fun e w' => ∃ v', e = .returned v' ∧ (∀ W, SV W v xs → SV W v' (restAt p xs)) ∧ Below (w.alloc X).heap.size (w.alloc X) w') := fun X => from_any (hv.alloc X) hc hl
  obtain ⟨n, b, hnb⟩ : ∃ n b, nextB p xs = (n, b) := ⟨_, _, rfl⟩
  rw [hnb]
  have HN : Hid (nextB p xs = (n, b)) := hnb
  clear hv hc hl hnb
  go_enter Try.func61, Try.ntmps61
  go_wp2_with fail
  refine (HC.out _).mono ?_
  rintro e w2 ⟨v2, rfl, h2, hb2⟩
  have h2' := h2 _ ((HV.out _).below hb2 (Nat.le_refl _))
  have HB2 : Hid (Below w.heap.size w w2) := ((Below.refl _ _).alloc (Nat.le_refl _) _).trans (hb2.mono (by simp))
  clear hb2 HC h2
  obtain ⟨ao, cap, rfl, _, _, _, _, h5⟩ := h2'
  have hnb := HN.out
  unfold nextB at hnb
  cases hr : restAt p xs with
  | nil =>
    rw [hr] at h5 hnb
    cases hnb
    clear h5 hr
    simp only [List.length_nil]
    go_wp2_with fail
    go_ret2
    exact ⟨rfl, HB2.out⟩
  | cons y r =>
    rw [hr] at h5 hnb
    obtain ⟨g, off, rfl, c0, c1⟩ := h5 0 (by simp)
    simp only [List.getElem_cons_zero, Nat.zero_mul, Nat.add_zero] at c0 c1
    simp only [List.length_cons]
    have hn : n = max p y.1 ∧ b = true := by cases hnb; exact ⟨rfl, rfl⟩
    clear h5 hr hnb c1
    obtain ⟨hn, rfl⟩ := hn
    have HMx : Hid (n = max p y.1) := hn
    clear hn
    go_wp2_with fail
    all_goals
      go_ret2
      exact ⟨by have := HMx.out; simp; omega, HB2.out⟩
set_option maxHeartbeats 1000000 in
theorem touches_any {w : World} {v : Value} {xs : List Sp} {x : Sp} (hv : SV w v xs) (hc : Canon 18446744073709551615 xs) (hl : xs.length ≤ 1152921504606846976) :
    Calls Try.prog 53 #[.agg #[v], .agg #[.int .u64 x.1, .int .u64 x.2]] w fun e w' => e = .returned (.bool (touchesB xs x)) ∧ Below w.heap.size w w' := by
  have HB0 : Hid (∀ a b, Below w.heap.size w ((w.alloc a).alloc b)) := fun a b => ((Below.refl _ _).alloc (Nat.le_refl _) _).alloc (by simp) _
  have HC : Hid (∀ X Y, Calls Try.prog 61 #[.agg #[v], .int .u64 x.1] ((w.alloc X).alloc Y) fun e w' => e = .returned (.tuple #[.int .u64 (nextB x.1 xs).1, .bool (nextB x.1 xs).2]) ∧ Below ((w.alloc X).alloc Y).heap.size ((w.alloc X).alloc Y) w') := fun X Y => next_any ((hv.alloc X).alloc Y) hc hl
  have d2 := (new2 (W := w.alloc (Obj.cells #[v] 77)) (n := w.heap.size + 1) (by simp) (.int .u64 x.1) (.int .u64 x.2) 102).2
  obtain ⟨b, hb⟩ : ∃ b, b = touchesB xs x := ⟨_, rfl⟩
  rw [← hb]
  unfold touchesB at hb
  obtain ⟨n, c, hn⟩ : ∃ n c, nextB x.1 xs = (n, c) := ⟨_, _, rfl⟩
  rw [hn] at HC hb
  have HR : Hid (b = (c && decide (n ≤ x.2))) := hb
  clear hv hc hl hn hb
  go_enter Try.func53, Try.ntmps53
  go_wp2_with fail
  refine (HC.out _ _).mono ?_
  rintro e w2 ⟨rfl, hb2⟩
  have HB2 : Hid (Below w.heap.size w w2) := (HB0.out (Obj.cells #[v] 77) (Obj.cells #[.int .u64 x.1, .int .u64 x.2] 102)).trans (hb2.mono (by simp; omega))
  have e2 : w2.cell? ⟨w.heap.size + 1, 1, none⟩ = some (.int .u64 x.2) := (hb2.cell (p := ⟨w.heap.size + 1, 1, none⟩) (by simp)).trans d2
  clear hb2 HC d2
  cases c with
  | false =>
    go_wp2_with fail
    go_ret
    exact ⟨by rw [HR.out]; rfl, HB2.out⟩
  | true =>
    go_wp2_with fail
    go_ret
    exact ⟨by rw [HR.out]; rfl, HB2.out⟩
end Go.Proofs.Ytehedllcdpjebaa.U64
