/- Lanes: Flatten of needs. Own work. -/
import Derived.Test.YtkhlkbgolonkkaaLnBd
import Derived.Test.YtkhlkbgolonkkaaLnFlt
namespace Go.Proofs.Ytkhlkbgolonkkaa
open Go.RowKit
set_option linter.unusedVariables false
/-- how many ticks the needs want -/
def wantN (m : Nat) : List R4 → Nat
  | [] => 0
  | r :: rs => r.b * (m / r.p) + wantN m rs
theorem refN_ok {m : Nat} (hm : m ≤ 65536) : ∀ (xs : List R4) (l i : Nat), (refF m true l i xs).2 = 0 → (NeedOk m xs ∧ wantN m xs ≤ l ∧ ∀ k, (allJ m k xs).length ≤ wantN m xs) ∧ ∀ r ∈ xs, r.b ≤ r.p ∧ r.s.toList.isEmpty = false
  | [], l, i, _ => ⟨⟨(fun r h => by cases h), Nat.zero_le _, fun k => Nat.le_refl _⟩, (fun r h => by cases h)⟩
  | x :: r, l, i, h => by
    unfold refF at h
    by_cases h1 : x.b = 0 ∨ m < x.b
    · have e : wantsF m true x = (0, 90) := by unfold wantsF; rw [if_pos h1]
      rw [e] at h
      simp at h
    · by_cases h3 : x.s.toList.isEmpty = true
      · have e : wantsF m true x = (0, 80) := by unfold wantsF; rw [if_neg h1, if_neg (by decide), if_pos h3]
        rw [e] at h
        simp at h
      · by_cases h4 : x.p = 0 ∨ m % x.p ≠ 0 ∨ x.p < x.b
        · have e : wantsF m true x = (0, 91) := by unfold wantsF; rw [if_neg h1, if_neg (by decide), if_neg h3, if_pos h4]
          rw [e] at h
          simp at h
        · have e : wantsF m true x = (x.b * (m / x.p), 0) := by unfold wantsF; rw [if_neg h1, if_neg (by decide), if_neg h3, if_neg h4]
          rw [e] at h
          simp only [ne_eq, not_true_eq_false, if_false] at h
          by_cases h2 : l < x.b * (m / x.p)
          · rw [if_pos h2] at h
            simp at h
          · rw [if_neg h2] at h
            obtain ⟨⟨a1, a2, a3⟩, a4⟩ := refN_ok hm r _ (i + 1) h
            have hp : x.p ≤ m := Nat.le_of_dvd (by omega) (Nat.dvd_of_mod_eq_zero (by omega))
            have hb : x.b ≤ x.p := by omega
            have h8 : m / x.p ≤ x.b * (m / x.p) := Nat.le_mul_of_pos_left _ (by omega)
            refine ⟨⟨fun y hy => ?_, by simp only [wantN]; omega, fun k => ?_⟩, fun y hy => ?_⟩
            · rcases List.mem_cons.1 hy with rfl | hy
              · exact ⟨by omega, by omega, by omega, by omega, by omega⟩
              · exact a1 y hy
            · have := a3 (k + 1)
              simp only [allJ, List.length_append, jobsI_length, wantN]
              omega
            · rcases List.mem_cons.1 hy with rfl | hy
              · exact ⟨hb, by simpa using h3⟩
              · exact a4 y hy
set_option maxRecDepth 100000 in
set_option maxHeartbeats 4000000 in
theorem flatten_needs {w : World} {v : Value} {xs : List R4} {m : Nat} {q cp : Int} (h : Rn w v xs) (hm0 : 1 ≤ m) (hm : m ≤ 65536) : Calls Try.prog 10 #[.int .u64 (m : Int), .agg #[.int .i64 q, .int .u64 cp, .bool true, v]] w fun e w' => Below w.heap.size w w' ∧
    (((refF m true m 0 xs).2 ≠ 0 ∧ e = .returned (.tuple #[.slice none 0 0, .int .i64 ((refF m true m 0 xs).1 : Int), .int .i64 (refF m true m 0 xs).2])) ∨
     ((refF m true m 0 xs).2 = 0 ∧ ∃ ws cs rs, Ed m xs ws cs rs ∧ endF rs = (m : Int) ∧ ((4096 < rs.length ∧ e = .returned (.tuple #[.slice none 0 0, .int .i64 (-1), .int .i64 4])) ∨
       (rs.length ≤ 4096 ∧ ∃ u, e = .returned (.tuple #[u, .int .i64 0, .int .i64 0]) ∧ OwnS w' w.heap.size u rs)))) := by
  have HT := Lib.hid h
  have HF : Hid (∀ W, Calls Try.prog 24 #[.int .u64 (m : Int)] W fun e w' => e = .returned (.bool true) ∧ w' = W) := fun W => framed_yes hm0 hm W
  have HR := Lib.hid (fun W (hb : Below w.heap.size w W) => refused_any (q := q) (cp := cp) (nd := true) (HT.out.below hb) hm)
  have HI : Hid ((refF m true m 0 xs).2 = 0 → ∀ W, Below w.heap.size w W → Calls Try.prog 27 #[.int .i64 (m : Int), v] W fun e w' => ∃ u, e = .returned u ∧ ∃ ws cs rs, OwnS w' W.heap.size u rs ∧ Ed m xs ws cs rs ∧ endF rs = (m : Int) ∧ Below W.heap.size W w') := by
    intro h0 W hb
    obtain ⟨⟨a1, a2, a3⟩, _⟩ := refN_ok hm _ _ _ h0
    exact byd_any (HT.out.below hb) hm a1 (by have := a3 0; omega)
  have HX0 : Hid ((w.alloc (.cells #[.int .i64 q, .int .u64 cp, .bool true, v] 25)).heap[w.heap.size]? = some (.cells #[.int .i64 q, .int .u64 cp, .bool true, v] 25 (0, 0))) := Array.getElem?_push_size (xs := w.heap)
  have HB0 : Hid (Below w.heap.size w (w.alloc (.cells #[.int .i64 q, .int .u64 cp, .bool true, v] 25))) := (Below.refl _ _).alloc (Nat.le_refl _) _
  have hwm : IntKind.i64.wrap (m : Int) = (m : Int) := by rw [IntKind.wrap_i64]; omega
  obtain ⟨ao, cap, rfl, _, _, _, _⟩ := h
  generalize refF m true m 0 xs = z at *
  obtain ⟨i, er⟩ := z
  simp only at HR HI ⊢
  clear hm0 hm
  go_enter Try.func10, Try.ntmps10
  go_wp2_with (go_at_call 24; refine (HF.out _).mono ?_; rintro e w' ⟨rfl, hw⟩; have hw := hw.symm; subst hw)
  refine (HR.out _ HB0.out).mono ?_
  rintro e w1 ⟨rfl, hb1⟩
  have HB1 : Hid (Below w.heap.size w w1) := HB0.out.trans (hb1.mono HB0.out.size)
  have hx1 : w1.heap[w.heap.size]? = some (.cells #[.int .i64 q, .int .u64 cp, .bool true, .slice ao xs.length cap] 25 (0, 0)) := (hb1.block w.heap.size (Array.getElem?_eq_some_iff.1 HX0.out).1).trans HX0.out
  have y2 : w1.cell? ⟨w.heap.size, 2, none⟩ = some (.bool true) := by rw [cell_of_row _ _ _ _ _ _ hx1]; rfl
  have y3 : w1.cell? ⟨w.heap.size, 3, none⟩ = some (.slice ao xs.length cap) := by rw [cell_of_row _ _ _ _ _ _ hx1]; rfl
  clear hx1 hb1 HR HX0 HB0
  by_cases h0 : er = 0
  · subst h0
    have HJ := Lib.hid (HI.out rfl)
    clear HI
    go_wp2_with fail
    refine (HJ.out _ HB1.out).mono ?_
    rintro e w2 ⟨v2, rfl, ws, cs, rs, ho2, hed, hend, hb2⟩
    have HEd : Hid (Ed m xs ws cs rs ∧ endF rs = (m : Int)) := ⟨hed, hend⟩
    clear hed hend
    obtain ⟨a2, c2, rfl⟩ := ho2.form
    have HO2 : Hid (OwnS w2 w.heap.size (.slice a2 rs.length c2) rs) := by
      refine ⟨ho2.1, ?_⟩
      rcases ho2.2 with h | ⟨g', cp, cur, e, hb, rest⟩
      · exact .inl h
      · exact .inr ⟨g', cp, cur, e, Nat.le_trans HB1.out.size hb, rest⟩
    have HB2 : Hid (Below w.heap.size w w2) := HB1.out.trans (hb2.mono HB1.out.size)
    clear ho2 hb2 y2 y3 HJ
    obtain ⟨L, hL⟩ : ∃ L, rs.length = L := ⟨_, rfl⟩
    have HL := Lib.hid hL
    rw [hL] at HO2
    simp only [hL]
    clear hL
    by_cases h5 : 4096 < L
    · have j5 : (4096 : Int) < (L : Int) := by omega
      go_wp2_with fail
      go_ret3
      exact ⟨HB2.out, ws, cs, rs, HEd.out.1, HEd.out.2, .inl ⟨by rw [HL.out]; exact h5, rfl⟩⟩
    · have j5 : ¬ (4096 : Int) < (L : Int) := by omega
      go_wp2_with fail
      go_ret3
      exact ⟨HB2.out, ws, cs, rs, HEd.out.1, HEd.out.2, .inr ⟨by rw [HL.out]; omega, _, rfl, HO2.out⟩⟩
  · clear HI y2 y3
    go_wp2_with fail
    go_ret3
    exact ⟨HB1.out, .inl ⟨h0, rfl⟩⟩
end Go.Proofs.Ytkhlkbgolonkkaa
