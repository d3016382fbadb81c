/- Lanes: Flatten of any runs (no needs). Own work. -/
import Derived.Test.YtkhlkbgolonkkaaLnInT
namespace Go.Proofs.Ytkhlkbgolonkkaa
open Go.RowKit
theorem refF_ok {m : Nat} : ∀ (xs : List R4) (l i : Nat), (refF m false l i xs).2 = 0 → sumN xs ≤ l ∧ xs.length ≤ sumN xs ∧ ∀ r ∈ xs, 1 ≤ r.b ∧ r.b ≤ m
  | [], l, i, _ => ⟨Nat.zero_le _, Nat.le_refl _, fun r h => by cases h⟩
  | x :: r, l, i, h => by
    unfold refF at h
    by_cases h1 : x.b = 0 ∨ m < x.b
    · have e : wantsF m false x = (0, 90) := by unfold wantsF; rw [if_pos h1]
      rw [e] at h
      simp at h
    · have e : wantsF m false x = (x.b, 0) := by unfold wantsF; rw [if_neg h1, if_pos rfl]
      rw [e] at h
      simp only [ne_eq, not_true_eq_false, if_false] at h
      by_cases h2 : l < x.b
      · rw [if_pos h2] at h
        simp at h
      · rw [if_neg h2] at h
        obtain ⟨a1, a2, a3⟩ := refF_ok r (l - x.b) (i + 1) h
        simp only [sumN, List.length_cons]
        refine ⟨by omega, by omega, fun y hy => ?_⟩
        rcases List.mem_cons.1 hy with rfl | hy
        · omega
        · exact a3 y hy
set_option maxHeartbeats 1000000 in
theorem framed_yes {m : Nat} (h1 : 1 ≤ m) (h2 : m ≤ 65536) (w : World) : Calls Try.prog 24 #[.int .u64 (m : Int)] w fun e w' => e = .returned (.bool true) ∧ w' = w := by
  have j1 : (1 : Int) ≤ (m : Int) := by omega
  have j2 : (m : Int) ≤ 65536 := by omega
  clear h1 h2
  go_enter Try.func24, Try.ntmps24
  go_wp2_with fail
  go_ret
  exact ⟨rfl, rfl⟩
set_option maxHeartbeats 1000000 in
theorem framed_no {m : Nat} (h : m = 0 ∨ 65536 < m) (w : World) : Calls Try.prog 24 #[.int .u64 (m : Int)] w fun e w' => e = .returned (.bool false) ∧ w' = w := by
  rcases h with rfl | h
  · exact framed_zero w
  · have j1 : (1 : Int) ≤ (m : Int) := by omega
    have j2 : ¬ (m : Int) ≤ 65536 := by omega
    clear h
    go_enter Try.func24, Try.ntmps24
    go_wp2_with fail
    go_ret
    exact ⟨rfl, rfl⟩
set_option maxRecDepth 100000 in
set_option maxHeartbeats 4000000 in
theorem flatten_unframed {w : World} {v : Value} {m : Nat} {q cp : Int} {nd : Bool} (h : m = 0 ∨ 65536 < m) : Calls Try.prog 10 #[.int .u64 (m : Int), .agg #[.int .i64 q, .int .u64 cp, .bool nd, v]] w fun e w' => e = .returned (.tuple #[.slice none 0 0, .int .i64 (-1), .int .i64 92]) ∧ Below w.heap.size w w' := by
  have HF : Hid (∀ W, Calls Try.prog 24 #[.int .u64 (m : Int)] W fun e w' => e = .returned (.bool false) ∧ w' = W) := fun W => framed_no h W
  clear h
  go_enter Try.func10, Try.ntmps10
  go_wp2_with (go_at_call 24; refine (HF.out _).mono ?_; rintro e w' ⟨rfl, hw⟩; have hw := hw.symm; subst hw)
  go_ret3
  exact ⟨rfl, (Below.refl _ _).alloc (Nat.le_refl _) _⟩
/-- the slots of runs one behind the other -/
noncomputable def madeF (m : Nat) (xs : List R4) : List S3 := adds (turnF [] xs) sN ((m : Int) - (sumN xs : Int))
set_option maxRecDepth 100000 in
set_option maxHeartbeats 4000000 in
theorem flatten_runs {w : World} {v : Value} {xs : List R4} {m : Nat} {q cp : Int} (h : Rn w v xs) (hm0 : 1 ≤ m) (hm : m ≤ 65536) : Calls Try.prog 10 #[.int .u64 (m : Int), .agg #[.int .i64 q, .int .u64 cp, .bool false, v]] w fun e w' => Below w.heap.size w w' ∧
    (((refF m false m 0 xs).2 ≠ 0 ∧ e = .returned (.tuple #[.slice none 0 0, .int .i64 ((refF m false m 0 xs).1 : Int), .int .i64 (refF m false m 0 xs).2])) ∨
     ((refF m false m 0 xs).2 = 0 ∧ 4096 < (madeF m xs).length ∧ e = .returned (.tuple #[.slice none 0 0, .int .i64 (-1), .int .i64 4])) ∨
     ((refF m false m 0 xs).2 = 0 ∧ (madeF m xs).length ≤ 4096 ∧ ∃ u, e = .returned (.tuple #[u, .int .i64 0, .int .i64 0]) ∧ OwnS w' w.heap.size u (madeF m xs))) := by
  have HT := Lib.hid h
  have HF : Hid (∀ W, Calls Try.prog 24 #[.int .u64 (m : Int)] W fun e w' => e = .returned (.bool true) ∧ w' = W) := fun W => framed_yes hm0 hm W
  have HR := Lib.hid (fun W (hb : Below w.heap.size w W) => refused_any (q := q) (cp := cp) (nd := false) (HT.out.below hb) hm)
  have HI : Hid ((refF m false m 0 xs).2 = 0 → ∀ W, Below w.heap.size w W → Calls Try.prog 26 #[.int .i64 (m : Int), v] W fun e w' => ∃ u, e = .returned u ∧ OwnS w' W.heap.size u (madeF m xs) ∧ Below W.heap.size W w') := by
    intro h0 W hb
    obtain ⟨a1, a2, _⟩ := refF_ok _ _ _ h0
    exact inTurn_any (HT.out.below hb) hm a1 (by omega)
  have HX0 : Hid ((w.alloc (.cells #[.int .i64 q, .int .u64 cp, .bool false, v] 25)).heap[w.heap.size]? = some (.cells #[.int .i64 q, .int .u64 cp, .bool false, v] 25 (0, 0))) := Array.getElem?_push_size (xs := w.heap)
  have HB0 : Hid (Below w.heap.size w (w.alloc (.cells #[.int .i64 q, .int .u64 cp, .bool false, v] 25))) := (Below.refl _ _).alloc (Nat.le_refl _) _
  have hwm : IntKind.i64.wrap (m : Int) = (m : Int) := by rw [IntKind.wrap_i64]; omega
  obtain ⟨ao, cap, rfl, _, _, _, _⟩ := h
  generalize refF m false m 0 xs = z at *
  obtain ⟨i, er⟩ := z
  simp only at HR HI ⊢
  clear hm0 hm
  go_enter Try.func10, Try.ntmps10
  go_wp2_with (go_at_call 24; refine (HF.out _).mono ?_; rintro e w' ⟨rfl, hw⟩; have hw := hw.symm; subst hw)
  refine (HR.out _ HB0.out).mono ?_
  rintro e w1 ⟨rfl, hb1⟩
  have HB1 : Hid (Below w.heap.size w w1) := HB0.out.trans (hb1.mono HB0.out.size)
  have hx1 : w1.heap[w.heap.size]? = some (.cells #[.int .i64 q, .int .u64 cp, .bool false, .slice ao xs.length cap] 25 (0, 0)) := (hb1.block w.heap.size (Array.getElem?_eq_some_iff.1 HX0.out).1).trans HX0.out
  have y2 : w1.cell? ⟨w.heap.size, 2, none⟩ = some (.bool false) := by rw [cell_of_row _ _ _ _ _ _ hx1]; rfl
  have y3 : w1.cell? ⟨w.heap.size, 3, none⟩ = some (.slice ao xs.length cap) := by rw [cell_of_row _ _ _ _ _ _ hx1]; rfl
  clear hx1 hb1 HR HX0 HB0
  by_cases h0 : er = 0
  · subst h0
    have HJ := Lib.hid (HI.out rfl)
    clear HI
    go_wp2_with fail
    refine (HJ.out _ HB1.out).mono ?_
    rintro e w2 ⟨v2, rfl, ho2, hb2⟩
    obtain ⟨a2, c2, rfl⟩ := ho2.form
    have HO2 : Hid (OwnS w2 w.heap.size (.slice a2 (madeF m xs).length c2) (madeF m xs)) := by
      refine ⟨ho2.1, ?_⟩
      rcases ho2.2 with h | ⟨g', cp, cur, e, hb, rest⟩
      · exact .inl h
      · exact .inr ⟨g', cp, cur, e, Nat.le_trans HB1.out.size hb, rest⟩
    have HB2 : Hid (Below w.heap.size w w2) := HB1.out.trans (hb2.mono HB1.out.size)
    clear ho2 hb2 y2 y3 HJ
    obtain ⟨L, hL⟩ : ∃ L, (madeF m xs).length = L := ⟨_, rfl⟩
    have HL := Lib.hid hL
    rw [hL] at HO2
    simp only [hL]
    clear hL
    by_cases h5 : 4096 < L
    · have j5 : (4096 : Int) < (L : Int) := by omega
      go_wp2_with fail
      go_ret3
      exact ⟨HB2.out, .inl ⟨by rw [HL.out]; exact h5, rfl⟩⟩
    · have j5 : ¬ (4096 : Int) < (L : Int) := by omega
      go_wp2_with fail
      go_ret3
      exact ⟨HB2.out, .inr ⟨by rw [HL.out]; omega, _, rfl, HO2.out⟩⟩
  · clear HI y2 y3
    go_wp2_with fail
    go_ret3
    exact ⟨HB1.out, .inl ⟨h0, rfl⟩⟩
end Go.Proofs.Ytkhlkbgolonkkaa
