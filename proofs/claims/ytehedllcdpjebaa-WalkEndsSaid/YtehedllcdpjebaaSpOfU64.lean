/- Clone, Spans, Of. Own work. -/
import Derived.Test.YtehedllcdpjebaaSpSortU64
namespace Go.Proofs.Ytehedllcdpjebaa.U64
open Go.RowKit Go.Shelf Go.Proofs.Ytehedllcdpjebaa.Sp

theorem empty_any (x : Sp) (W : World) : Calls Try.prog 43 #[.agg #[.int .u64 x.1, .int .u64 x.2]] W fun e w' => e = .returned (.bool (decide (x.2 < x.1))) ∧ ∃ X, w' = W.alloc X := by
  go_enter Try.func43, Try.ntmps43
  go_wp2
  go_ret
  exact ⟨rfl, _, rfl⟩
theorem clone_any {w : World} {v : Value} {xs : List Sp} (hv : SV w v xs) (hl : xs.length ≤ 1099511627776) :
    Calls Try.prog 39 #[v] w fun e w' => ∃ v', e = .returned v' ∧ Own w' w.heap.size v' xs ∧ Below w.heap.size w w' := by
  obtain ⟨ao, cap, rfl, h1, h2, h3, h4, h5⟩ := hv
  cases ao with
  | none =>
    obtain ⟨rfl, rfl⟩ := h3 rfl
    have := AnyE.slices_Clone_nil cloneU64 0 0 w
    refine Calls.mono this ?_
    rintro e w' ⟨rfl, rfl⟩
    exact ⟨_, rfl, Own.nil _ _, Below.refl _ _⟩
  | some a =>
    obtain ⟨g, off, rfl, hg⟩ := h4 _ rfl
    obtain ⟨i, hi, hz0, hz1, hz2⟩ := info_parts info_span
    have := AnyE.slices_Clone cloneU64 i (.agg #[.int .u64 0, .int .u64 0]) 2 (2 * 8) hi hz0 hz1 hz2 rfl (by omega) Try.sizeOf102 g off xs.length cap (encs xs) w (encs_length xs) (by unfold maxLen; omega) (by omega) (fun j u hj => by
      have hjl : j < xs.length * 2 := by rw [← encs_length]; exact (List.getElem?_eq_some_iff.1 hj).1
      obtain ⟨g', off', e', d0, d1⟩ := h5 (j / 2) (by omega)
      cases e'
      rcases Nat.mod_two_eq_zero_or_one j with q | q
      · have := encs_get0 xs (j / 2) (by omega)
        rw [show j / 2 * 2 = j by omega] at this d0
        rw [d0, ← this, hj]
      · have := encs_get1 xs (j / 2) (by omega)
        rw [show j / 2 * 2 + 1 = j by omega] at this
        rw [show off + j / 2 * 2 + 1 = off + j by omega] at d1
        rw [d1, ← this, hj]) (encs_one xs)
    refine Calls.mono this ?_
    rintro e w' ⟨v', rfl, ho, _, hb⟩
    exact ⟨v', rfl, ho, hb⟩

set_option maxHeartbeats 2000000 in
theorem of_any {w : World} {v : Value} {xs : List Sp} (hv : SV w v xs) (hf : Fits 18446744073709551615 xs) (hl : xs.length ≤ 1099511627776) :
    Calls Try.prog 25 #[v] w (SetPost w (OfR 18446744073709551615 xs)) := by
  have HC : Hid (∀ X, Calls Try.prog 39 #[v] (w.alloc X) fun e w' => ∃ v', e = .returned v' ∧ Own w' (w.alloc X).heap.size v' xs ∧ Below (w.alloc X).heap.size (w.alloc X) w') := fun X => clone_any (hv.alloc X) hl
  clear hv
  go_enter Try.func25, Try.ntmps25
  go_wp2_with fail
  refine (HC.out _).mono ?_
  rintro e w1 ⟨v1, rfl, ho1, hb1⟩
  have HO1 : Hid (Own w1 (w.heap.size + 1) v1 xs) := show Own w1 (w.heap.size + 1) v1 xs by simpa using ho1
  have HB1 : Hid (Below (w.heap.size + 1) (w.alloc (.cells #[.slice none 0 0] 77)) w1) := show Below (w.heap.size + 1) (w.alloc (.cells #[.slice none 0 0] 77)) w1 by simpa using hb1
  clear ho1 hb1 HC
  go_wp2_with fail
  refine (sort_any HO1.out hl).mono ?_
  rintro e W0 ⟨rfl, ys, ho2, hp2, hs2, hb2⟩
  obtain ⟨a1, c1, hv1⟩ : ∃ a c, v1 = .slice a ys.length c := by
    obtain ⟨a, c, e, _⟩ := ho2.sv
    exact ⟨a, c, e⟩
  subst hv1
  have HO2 : Hid (Own W0 (w.heap.size + 1) (.slice a1 ys.length c1) ys) := ho2
  have HR : Hid (∀ k, Canon 18446744073709551615 (ofRow [] (ys.take k)) ∧ (∀ p, In p (ofRow [] (ys.take k)) ↔ In p (ys.take k)) ∧ (ofRow [] (ys.take k)).length ≤ k) := fun k => ofRow_made hp2 hs2 hf k
  have HP : Hid (ys.Perm xs) := hp2
  have hyl : ys.length ≤ 1099511627776 := by rw [hp2.length_eq]; exact hl
  have HF : Hid (∀ x ∈ ys, 0 ≤ x.1 ∧ x.1 ≤ 18446744073709551615 ∧ 0 ≤ x.2 ∧ x.2 ≤ 18446744073709551615) := fun x hx => hf x (hp2.mem_iff.1 hx)
  have HB2 : Hid (Below (w.heap.size + 1) (w.alloc (.cells #[.slice none 0 0] 77)) W0) := HB1.out.trans hb2
  have HSz : Hid (w.heap.size + 1 ≤ W0.heap.size) := by have := HB2.out.size; simp at this; exact this
  clear ho2 hp2 hs2 hb2 HO1 HB1 hf
  go_wp2_with fail
  go_loopw [4, 13] (fun v i wr => ∃ k : Nat, k ≤ ys.length ∧ i = .int .i64 (k : Int) ∧ Hid (Own wr W0.heap.size v (ofRow [] (ys.take k))) ∧ Hid (Below W0.heap.size W0 wr)) (fun _ i _ => ys.length - (intOf i).toNat)
  case atStart => exact ⟨0, Nat.zero_le _, rfl, Own.nil _ _, Below.refl _ _⟩
  case round =>
    obtain ⟨k, hk, rfl, HO, HB⟩ := hrel
    by_cases hlt : k < ys.length
    · obtain ⟨ao, cap, e, _, _, _, _, h5⟩ := HO2.out.sv.below HB.out (Nat.le_refl _)
      cases e
      obtain ⟨g, off, rfl, d0, d1⟩ := h5 k hlt
      clear h5
      obtain ⟨x, hx⟩ : ∃ x, x = ys[k] := ⟨_, rfl⟩
      rw [← hx] at d0 d1
      have HX : Hid (x = ys[k]) := hx
      have hb := HF.out x (by rw [hx]; exact List.getElem_mem _)
      clear hx
      have HB3 : Hid (∀ X Y, Below W0.heap.size W0 ((wr.alloc X).alloc Y)) := fun X Y => (HB.out.alloc HB.out.size X).alloc (by have := HB.out.size; simp; omega) Y
      have HO3 : Hid (∀ X Y, Own ((wr.alloc X).alloc Y) W0.heap.size u4 (ofRow [] (ys.take k))) := fun X Y => (HO.out.alloc X).alloc Y
      go_wp2_with fail
      refine (empty_any x _).mono ?_
      rintro e w' ⟨rfl, Y, rfl⟩
      have d2 := cell_alloc' Y (new2 (W := wr) rfl (.int .u64 x.1) (.int .u64 x.2) 102).1
      have d3 := cell_alloc' Y (new2 (W := wr) rfl (.int .u64 x.1) (.int .u64 x.2) 102).2
      clear d0 d1
      by_cases he : x.2 < x.1
      · have hd : decide (x.2 < x.1) = true := decide_eq_true he
        rw [hd]
        go_wp2_with fail
        go_roundw
        case rel => exact ⟨k + 1, by omega, by go_num, (show Own _ _ _ _ by rw [ofRow_take hlt, ← HX.out, ofStep, if_pos he]; exact HO3.out _ _), HB3.out _ _⟩
        case measure => simp [intOf]; omega
      · have hd : decide (x.2 < x.1) = false := decide_eq_false he
        rw [hd]
        go_wp2_with fail
        refine (join_any (x := x) (HO3.out _ _) (HB3.out _ _).size (HR.out k).1 hb.2.1 (by have := (HR.out k).2.2; omega)).mono ?_
        rintro e w4 ⟨v4, rfl, ho4, hb4⟩
        have HO4 : Hid (Own w4 W0.heap.size v4 (ofRow [] (ys.take (k + 1)))) := show Own _ _ _ _ by rw [ofRow_take hlt, ← HX.out, ofStep, if_neg (show ¬ x.2 < x.1 by omega)]; exact ho4
        have HB4 : Hid (Below W0.heap.size W0 w4) := (HB3.out _ _).trans hb4
        clear ho4 hb4
        go_wp2_with fail
        go_roundw
        case rel => exact ⟨k + 1, by omega, by go_num, HO4.out, HB4.out⟩
        case measure => simp [intOf]; omega
    · obtain rfl : k = ys.length := by omega
      obtain ⟨a4, n4, c4, hv4⟩ : ∃ a n c, u4 = .slice a n c := by
        obtain ⟨a, c, e, _⟩ := HO.out.sv
        exact ⟨a, _, c, e⟩
      subst hv4
      have hbk : wr.heap[w.heap.size]? = some (.cells #[.slice none 0 0] 77) := by
        rw [HB.out.block _ (by have := HSz.out; omega), HB2.out.block _ (by omega)]
        exact heap_alloc_new w _
      have hce : wr.cell? ⟨w.heap.size, 0, none⟩ = some (.slice none 0 0) := by rw [cell_of_row _ _ 0 _ _ _ hbk]; rfl
      have hfe : wr.frozen? ⟨w.heap.size, 0, none⟩ = false := by simp [World.frozen?, hbk]
      clear hbk
      go_wp2_with fail
      have d0 := World.cell?_setCell_same' wr ⟨w.heap.size, 0, none⟩ (.slice a4 n4 c4) (by rw [hce]; rfl)
      refine bodyPost_ret (v := .agg #[.slice a4 n4 c4]) (by simp [results, Try.results25, go_sem, d0]) rfl ?_
      have hR := HR.out ys.length
      rw [List.take_length] at hR
      have hO := HO.out
      rw [List.take_length] at hO
      refine ⟨_, _, rfl, (hO.low (by have := HSz.out; omega) _ _).lower (by have := HSz.out; omega), ⟨hR.1, fun p => (hR.2.1 p).trans (in_perm HP.out p), by rw [← HP.out.length_eq]; exact hR.2.2⟩, ?_⟩
      exact ((((Below.refl _ _).alloc (Nat.le_refl _) _).trans (HB2.out.mono (by omega))).trans (HB.out.mono (by have := HSz.out; omega))).setCell (p := ⟨w.heap.size, 0, none⟩) (Nat.le_refl _) _
end Go.Proofs.Ytehedllcdpjebaa.U64
