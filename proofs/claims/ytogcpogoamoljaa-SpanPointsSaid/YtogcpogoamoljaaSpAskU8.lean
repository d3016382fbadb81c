/- Covers, Has, Next, Touches, Same. Own work. -/
import Derived.Test.YtogcpogoamoljaaSpFromU8
import Derived.Laws.StructEq
import Derived.Test.YtogcpogoamoljaaSpMath2
namespace Go.Proofs.Ytogcpogoamoljaa.U8
open Go.RowKit Go.Shelf Go.Proofs.Ytogcpogoamoljaa.Sp

set_option maxHeartbeats 2000000 in
theorem covers_any {w : World} {v : Value} {xs : List Sp} {x : Sp} (hv : SV w v xs) (hc : Canon 255 xs) (hl : xs.length ≤ 1152921504606846976) :
    Calls Try.prog 39 #[.agg #[v], .agg #[.int .u8 x.1, .int .u8 x.2]] w fun e w' => e = .returned (.bool (coversB xs x)) ∧ Below w.heap.size w w' := by
  have HB0 : Hid (∀ a b c, Below w.heap.size w (((w.alloc a).alloc b).alloc c)) := fun a b c => (((Below.refl _ _).alloc (Nat.le_refl _) _).alloc (by simp) _).alloc (by simp; omega) _
  have HV : Hid (SV w v xs) := hv
  have HC : Hid (Canon 255 xs) := hc
  have d0 := fun X : Obj => cell_alloc' X (cell_alloc' (w := w.alloc (Obj.cells #[v] 25)) (Obj.cells #[.int .u8 x.1, .int .u8 x.2] 28) (show (w.alloc (Obj.cells #[v] 25)).cell? ⟨w.heap.size, 0, none⟩ = some v by rw [cell_of_row _ _ 0 _ _ _ (heap_alloc_new w _)]; rfl))
  have d1 := fun X : Obj => cell_alloc' X (new2 (W := w.alloc (Obj.cells #[v] 25)) (n := w.heap.size + 1) (by simp) (.int .u8 x.1) (.int .u8 x.2) 28).1
  have d2 := fun X : Obj => cell_alloc' X (new2 (W := w.alloc (Obj.cells #[v] 25)) (n := w.heap.size + 1) (by simp) (.int .u8 x.1) (.int .u8 x.2) 28).2
  clear hv hc
  by_cases he : x.2 < x.1
  · have hs : coversB xs x = true := by simp [coversB, he]
    rw [hs]
    have hd : decide (x.2 < x.1) = true := decide_eq_true he
    clear hs
    go_enter Try.func39, Try.ntmps39
    go_wp2_with fail
    refine (empty_any x _).mono ?_
    rintro e w' ⟨rfl, X, rfl⟩
    rw [hd]
    go_wp2_with fail
    go_ret
    exact ⟨rfl, HB0.out _ _ _⟩
  · have hd : decide (x.2 < x.1) = false := decide_eq_false he
    obtain ⟨b, hb⟩ : ∃ b, b = coversB xs x := ⟨_, rfl⟩
    rw [← hb]
    have HR : Hid (b = coversB xs x) := hb
    clear hb
    go_enter Try.func39, Try.ntmps39
    go_wp2_with fail
    refine (empty_any x _).mono ?_
    rintro e w' ⟨rfl, X, rfl⟩
    rw [hd]
    go_wp2_with fail
    refine (from_any (p := x.1) (HV.out.below (HB0.out _ _ _) (Nat.le_refl _)) HC.out hl).mono ?_
    rintro e w2 ⟨v2, rfl, h2, hb2⟩
    have h2' := h2 _ (HV.out.below ((HB0.out (Obj.cells #[v] 25) (Obj.cells #[.int .u8 x.1, .int .u8 x.2] 28) X).trans (hb2.mono (by simp; omega))) (Nat.le_refl _))
    have HB2 : Hid (Below w.heap.size w w2) := (HB0.out (Obj.cells #[v] 25) (Obj.cells #[.int .u8 x.1, .int .u8 x.2] 28) X).trans (hb2.mono (by simp; omega))
    have e1 : w2.cell? ⟨w.heap.size + 1, 0, none⟩ = some (.int .u8 x.1) := (hb2.cell (p := ⟨w.heap.size + 1, 0, none⟩) (by simp)).trans (d1 X)
    have e2 : w2.cell? ⟨w.heap.size + 1, 1, none⟩ = some (.int .u8 x.2) := (hb2.cell (p := ⟨w.heap.size + 1, 1, none⟩) (by simp)).trans (d2 X)
    clear h2 hb2 d0 d1 d2
    obtain ⟨ao, cap, rfl, _, _, _, _, h5⟩ := h2'
    cases hr : restAt x.1 xs with
    | nil =>
      rw [hr] at h5
      clear h5
      simp only [List.length_nil]
      have HE : Hid (b = false) := show b = false by rw [HR.out, coversB, if_neg (show ¬ x.2 < x.1 by omega), hr]
      clear hr
      go_wp2_with fail
      go_quiet (fail)
      go_wp2_with fail
      go_ret
      exact ⟨by rw [HE.out]; rfl, below_drewN' HB2.out _⟩
    | cons y r =>
      rw [hr] at h5
      obtain ⟨g, off, rfl, c0, c1⟩ := h5 0 (by simp)
      simp only [List.getElem_cons_zero, Nat.zero_mul, Nat.add_zero] at c0 c1
      simp only [List.length_cons]
      have HE : Hid (b = (decide (y.1 ≤ x.1) && decide (x.2 ≤ y.2))) := show b = _ by rw [HR.out, coversB, if_neg (show ¬ x.2 < x.1 by omega), hr]
      clear h5 hr
      by_cases h1 : y.1 ≤ x.1
      · have hd1 : decide (y.1 ≤ x.1) = true := decide_eq_true h1
        go_wp2_with fail
        go_quiet (fail)
        go_wp2_with fail
        go_ret
        exact ⟨by rw [HE.out, hd1]; rfl, below_drewN' HB2.out _⟩
      · have hd1 : decide (y.1 ≤ x.1) = false := decide_eq_false h1
        go_wp2_with fail
        go_quiet (fail)
        go_wp2_with fail
        go_ret
        exact ⟨by rw [HE.out, hd1]; rfl, below_drewN' HB2.out _⟩

set_option maxHeartbeats 1000000 in
theorem has_any {w : World} {v : Value} {xs : List Sp} {p : Int} (hv : SV w v xs) (hc : Canon 255 xs) (hl : xs.length ≤ 1152921504606846976) :
    Calls Try.prog 21 #[.agg #[v], .int .u8 p] w fun e w' => e = .returned (.bool (coversB xs (p, p))) ∧ Below w.heap.size w w' := by
  have HC : Hid (∀ X, Calls Try.prog 39 #[.agg #[v], .agg #[.int .u8 p, .int .u8 p]] (w.alloc X) fun e w' => e = .returned (.bool (coversB xs (p, p))) ∧ Below (w.alloc X).heap.size (w.alloc X) w') := fun X => covers_any (x := (p, p)) (hv.alloc X) hc hl
  generalize coversB xs (p, p) = b at HC ⊢
  clear hv hc hl
  go_enter Try.func21, Try.ntmps21
  go_wp2_with fail
  refine (HC.out _).mono ?_
  rintro e w2 ⟨rfl, hb2⟩
  have HB2 : Hid (Below w.heap.size w w2) := ((Below.refl _ _).alloc (Nat.le_refl _) _).trans (hb2.mono (by simp))
  clear hb2 HC
  go_wp2_with fail
  go_ret
  exact ⟨rfl, HB2.out⟩
set_option maxHeartbeats 1000000 in
theorem next_any {w : World} {v : Value} {xs : List Sp} {p : Int} (hv : SV w v xs) (hc : Canon 255 xs) (hl : xs.length ≤ 1152921504606846976) :
    Calls Try.prog 22 #[.agg #[v], .int .u8 p] w fun e w' => e = .returned (.tuple #[.int .u8 (nextB p xs).1, .bool (nextB p xs).2]) ∧ Below w.heap.size w w' := by
  have HV : Hid (∀ X, SV (w.alloc X) v xs) := fun X => hv.alloc X
  have HC : Hid (∀ X, Calls Try.prog 40 #[.agg #[v], .int .u8 p] (w.alloc X) fun e w' => ∃ v', e = .returned v' ∧ (∀ W, SV W v xs → SV W v' (restAt p xs)) ∧ Below (w.alloc X).heap.size (w.alloc X) w') := fun X => from_any (hv.alloc X) hc hl
  obtain ⟨n, b, hnb⟩ : ∃ n b, nextB p xs = (n, b) := ⟨_, _, rfl⟩
  rw [hnb]
  have HN : Hid (nextB p xs = (n, b)) := hnb
  clear hv hc hl hnb
  go_enter Try.func22, Try.ntmps22
  go_wp2_with fail
  refine (HC.out _).mono ?_
  rintro e w2 ⟨v2, rfl, h2, hb2⟩
  have h2' := h2 _ ((HV.out _).below hb2 (Nat.le_refl _))
  have HB2 : Hid (Below w.heap.size w w2) := ((Below.refl _ _).alloc (Nat.le_refl _) _).trans (hb2.mono (by simp))
  clear hb2 HC h2
  obtain ⟨ao, cap, rfl, _, _, _, _, h5⟩ := h2'
  have hnb := HN.out
  unfold nextB at hnb
  cases hr : restAt p xs with
  | nil =>
    rw [hr] at h5 hnb
    cases hnb
    clear h5 hr
    simp only [List.length_nil]
    go_wp2_with fail
    go_ret2
    exact ⟨rfl, HB2.out⟩
  | cons y r =>
    rw [hr] at h5 hnb
    obtain ⟨g, off, rfl, c0, c1⟩ := h5 0 (by simp)
    simp only [List.getElem_cons_zero, Nat.zero_mul, Nat.add_zero] at c0 c1
    simp only [List.length_cons]
    have hn : n = max p y.1 ∧ b = true := by cases hnb; exact ⟨rfl, rfl⟩
    clear h5 hr hnb c1
    obtain ⟨hn, rfl⟩ := hn
    have HMx : Hid (n = max p y.1) := hn
    clear hn
    go_wp2_with fail
    all_goals
      go_ret2
      exact ⟨by have := HMx.out; simp; omega, HB2.out⟩
end Go.Proofs.Ytogcpogoamoljaa.U8
