/- Lanes: At, walked. Own work. -/
import Derived.Test.YtkhlkbgolonkkaaLnAt
namespace Go.Proofs.Ytkhlkbgolonkkaa
open Go.RowKit
/-- stints that are read, wherever they lie -/
def Rd2 (w : World) (v : Value) (xs : List (Int × Int)) : Prop :=
  ∃ ao cap, v = .slice ao xs.length cap ∧ xs.length ≤ cap ∧ cap ≤ maxLen ∧ (∀ x ∈ xs, -9223372036854775808 ≤ x.1 ∧ x.1 ≤ 9223372036854775807 ∧ -9223372036854775808 ≤ x.2 ∧ x.2 ≤ 9223372036854775807) ∧ ∀ i (h : i < xs.length), ∃ b o, ao = some ⟨b, o, none⟩ ∧ w.cell? ⟨b, o + i * 2, none⟩ = some (.int .i64 xs[i].1) ∧ w.cell? ⟨b, o + i * 2 + 1, none⟩ = some (.int .i64 xs[i].2)
theorem Rd2.below {w w' : World} {v : Value} {xs : List (Int × Int)} (h : Rd2 w v xs) (hb : Below w.heap.size w w') : Rd2 w' v xs := by
  obtain ⟨ao, cap, rfl, h1, h2, h4, h3⟩ := h
  refine ⟨ao, cap, rfl, h1, h2, h4, fun i hi => ?_⟩
  obtain ⟨b, o, rfl, c0, c1⟩ := h3 i hi
  have hl := World.block_lt_of_cell? w _ c0
  exact ⟨b, o, rfl, (hb.cell (p := ⟨b, o + i * 2, none⟩) hl).trans c0, (hb.cell (p := ⟨b, o + i * 2 + 1, none⟩) hl).trans c1⟩
set_option maxRecDepth 100000 in
set_option maxHeartbeats 4000000 in
theorem at_any {w : World} {v : Value} {xs : List (Int × Int)} {m o : Int} (h : Rd2 w v xs) (ho0 : 0 ≤ o) (hom : o < m) (hm1 : m ≤ 9223372036854775807) : Calls Try.prog 18 #[v, .int .i64 m, .int .i64 o] w fun e w' => e = .returned (.tuple #[.int .i64 (atL m o (-1) 0 xs).1, .int .i64 (atL m o (-1) 0 xs).2]) ∧ Below w.heap.size w w' := by
  have HR := Lib.hid h
  obtain ⟨ao, cap, rfl, h1, h2, h3, _⟩ := h
  unfold maxLen at h2
  obtain ⟨n, hn⟩ : ∃ n, xs.length = n := ⟨_, rfl⟩
  have HN := Lib.hid hn
  have HX : Hid (∀ x ∈ xs, -9223372036854775808 ≤ x.1 ∧ x.1 ≤ 9223372036854775807 ∧ -9223372036854775808 ≤ x.2 ∧ x.2 ≤ 9223372036854775807) := h3
  rw [hn] at h1 ⊢
  obtain ⟨R, hR⟩ : ∃ R, atL m o (-1) 0 xs = R := ⟨_, rfl⟩
  rw [hR]
  have HR0 : Hid (atL m o (-1) 0 (xs.drop 0) = R) := hR
  clear hn h3 hR
  go_enter Try.func18, Try.ntmps18
  go_wp2_with fail
  go_loopw [8, 9, 22] (fun wv ev iv wr => ∃ (i : Nat) (who e : Int), i ≤ n ∧ iv = .int .i64 (i : Int) ∧ wv = .int .i64 who ∧ ev = .int .i64 e ∧ 0 ≤ e ∧ e ≤ m ∧ Hid (atL m o who e (xs.drop i) = R) ∧ Hid (Below w.heap.size w wr)) (fun _ _ iv _ => n - (intOf iv).toNat)
  case atStart => exact ⟨0, -1, 0, by omega, rfl, rfl, rfl, by omega, by omega, HR0, Below.refl _ _⟩
  case round =>
    clear HR0
    obtain ⟨i, who, e, hi, rfl, rfl, rfl, he0, he1, HE, HB⟩ := hrel
    by_cases hin : i < n
    · have hix : i < xs.length := by rw [HN.out]; exact hin
      have d1 : decide ((i : Int) < (n : Int)) = true := decide_eq_true (by omega)
      have ji : (i : Int) < (n : Int) := by omega
      have hw1 : IntKind.i64.wrap ((i : Int) + 1) = ((i + 1 : Nat) : Int) := by rw [IntKind.wrap_i64]; omega
      obtain ⟨ao', cap', e', _, _, _, hc⟩ := HR.out.below HB.out
      simp only [Value.slice.injEq] at e'
      obtain ⟨rfl, _, rfl⟩ := e'
      obtain ⟨b, of, rfl, c0, c1⟩ := hc i hix
      obtain ⟨x0, x1, x2, x3⟩ := HX.out xs[i] (List.getElem_mem _)
      have HD : Hid (atL m o who e (xs[i] :: xs.drop (i + 1)) = R) := by
        have := HE.out
        rw [List.drop_eq_getElem_cons hix] at this
        exact this
      clear hc HE
      generalize xs[i] = x at *
      obtain ⟨s, k⟩ := x
      simp only at c0 c1 x0 x1 x2 x3
      by_cases hk : k < 1
      · have HE2 : Hid (atL m o who e (xs.drop (i + 1)) = R) := by
          have := HD.out
          unfold atL at this
          rw [if_pos hk] at this
          exact this
        go_wp2_with fail
        go_roundw
        case rel => exact ⟨i + 1, who, e, by omega, rfl, rfl, rfl, he0, he1, HE2, HB.out.alloc HB.out.size _⟩
        case measure => simp [intOf]; omega
      · obtain ⟨q, hq⟩ : ∃ q, max s (-1) = q := ⟨_, rfl⟩
        obtain ⟨t, ht⟩ : ∃ t, min k (m - e) = t := ⟨_, rfl⟩
        have hq' : (-1 ≤ s ∧ q = s) ∨ (s < -1 ∧ q = -1) := by omega
        have ht' : (k ≤ m - e ∧ t = k) ∨ (m - e < k ∧ t = m - e) := by omega
        by_cases hret : q ≠ who ∧ o < e
        · have HF2 : Hid (R = (who, e - o)) := by
            have := HD.out
            unfold atL at this
            rw [if_neg hk, hq, if_pos hret] at this
            exact this.symm
          obtain ⟨hr1, hr2⟩ := hret
          clear HD ht ht' hq
          rcases hq' with ⟨hs1, rfl⟩ | ⟨hs1, rfl⟩
          all_goals
            go_wp2_with fail
            go_ret2
            exact ⟨by rw [HF2.out]; rfl, HB.out.alloc HB.out.size _⟩
        · have HE2 : Hid (atL m o q (e + t) (xs.drop (i + 1)) = R) := by
            have := HD.out
            unfold atL at this
            rw [if_neg hk, hq, if_neg hret, ht] at this
            exact this
          have he2 : 0 ≤ e + t ∧ e + t ≤ m := by omega
          have n1 : (wr.alloc (.cells #[.int .i64 s, .int .i64 k] 58)).cell? ⟨wr.heap.size, 1, none⟩ = some (.int .i64 k) := by
            rw [cell_of_row _ _ _ _ _ _ (show (wr.alloc (.cells #[.int .i64 s, .int .i64 k] 58)).heap[wr.heap.size]? = some (.cells #[.int .i64 s, .int .i64 k] 58 (0, 0)) from Array.getElem?_push_size)]; rfl
          have HA : Hid (Below w.heap.size w (wr.alloc (.cells #[.int .i64 s, .int .i64 k] 58))) := HB.out.alloc HB.out.size _
          obtain ⟨he3, he4⟩ := he2
          have hgo : q = who ∨ (q ≠ who ∧ e ≤ o) := by omega
          have HEnd : Hid (IntKind.i64.wrap (e + if IntKind.i64.wrap (m - e) < k then IntKind.i64.wrap (m - e) else k) = e + t) := by
            show _ = _
            have a1 : IntKind.i64.wrap (m - e) = m - e := by rw [IntKind.wrap_i64]; omega
            rw [a1, show (if m - e < k then m - e else k) = t by split <;> omega, IntKind.wrap_i64]
            omega
          clear HD hq hret ht ht'
          rcases hq' with ⟨hs1, rfl⟩ | ⟨hs1, rfl⟩ <;> rcases hgo with hgo | ⟨hgo, hgo2⟩
          all_goals
            try subst hgo
            go_wp2_with fail
            go_region_held3 (fun w' => w'.cell? ⟨wr.heap.size, 1, none⟩ = some (.int .i64 k)) (go_keep) (fail)
            all_goals
              go_wp2_with fail
              go_roundw
              case rel => exact ⟨i + 1, _, e + t, by omega, rfl, rfl, by rw [HEnd.out], he3, he4, HE2, HA.out.drew⟩
              case measure => simp [intOf]; omega
    · obtain rfl : i = n := by omega
      have HF : Hid ((if who ≠ -1 ∧ o < e then (who, e - o) else (-1, m - o)) = R) := by
        have := HE.out
        rw [List.drop_eq_nil_of_le (by rw [HN.out]; exact Nat.le_refl _)] at this
        exact this
      by_cases hw : who = -1
      · subst hw
        have HF2 : Hid (R = (-1, m - o)) := by have := HF.out; rw [if_neg (by simp)] at this; exact this.symm
        go_wp2_with fail
        go_ret2
        exact ⟨by rw [HF2.out]; rfl, HB.out⟩
      · by_cases he : o < e
        · have HF2 : Hid (R = (who, e - o)) := by have := HF.out; rw [if_pos ⟨hw, he⟩] at this; exact this.symm
          go_wp2_with fail
          go_ret2
          exact ⟨by rw [HF2.out]; rfl, HB.out⟩
        · have HF2 : Hid (R = (-1, m - o)) := by have := HF.out; rw [if_neg (fun h => he h.2)] at this; exact this.symm
          go_wp2_with fail
          go_ret2
          exact ⟨by rw [HF2.out]; rfl, HB.out⟩
end Go.Proofs.Ytkhlkbgolonkkaa
