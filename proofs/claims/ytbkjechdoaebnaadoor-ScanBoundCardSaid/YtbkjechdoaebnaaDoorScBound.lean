/- ScanBound: the walk. -/
import Derived.Test.YtbkjechdoaebnaaDoorScBound0
import Derived.Test.YtbkjechdoaebnaaDoorScKnown
namespace Go.Proofs.YtbkjechdoaebnaaDoor
open Go.RowKit Sc
namespace Sc
theorem fillL_length (c n : Nat) : (fillL c n).length = n := by simp [fillL]
theorem fillB_small {c : Nat} (hc : c < 256) (i : Nat) : fillB c i < 256 := by unfold fillB; split <;> omega
theorem fillL_small {c : Nat} (hc : c < 256) (n : Nat) : ∀ z ∈ fillL c n, z < 256 := by
  intro z hz
  simp only [fillL, List.mem_map] at hz
  obtain ⟨i, _, rfl⟩ := hz
  exact fillB_small hc i
/-- the first k places are filled -/
def fillUp (c n k : Nat) : List Nat := fillL c k ++ List.replicate (n - k) 0
theorem fillUp_length {c n k : Nat} (h : k ≤ n) : (fillUp c n k).length = n := by simp [fillUp, fillL_length]; omega
theorem fillUp_end (c n : Nat) : fillUp c n n = fillL c n := by simp [fillUp]
theorem fillUp_set {c n k : Nat} (h : k < n) : (fillUp c n k).set k (fillB c k) = fillUp c n (k + 1) := by
  unfold fillUp
  rw [show n - k = (n - (k + 1)) + 1 from by omega, List.replicate_succ, List.set_append, if_neg (by rw [fillL_length]; omega), fillL_length, Nat.sub_self, List.set_cons_zero, fillL, fillL, List.range_succ, List.map_append, List.append_assoc]
  rfl
/-- what ScanBound asks for -/
def boundF (c n : Nat) : Nat × Nat × Nat :=
  if 1048576 < n then (0, 0, 3) else if c = 97 then (n / 20 + 1, 0, 0) else if c = 59 then (n, 0, 0) else if c = 33 then (0, 1, 60) else (0, 0, 0)
theorem bound_tokens {c n : Nat} (hc : c = 32 ∨ c = 35 ∨ c = 97 ∨ c = 33 ∨ c = 59) (h1 : 1048574 ≤ n) (h2 : n ≤ 1048579) : (tokens (fillL c n)).1.length = (boundF c n).1 ∧ (tokens (fillL c n)).2 = (boundF c n).2 := by
  by_cases hn : 1048576 < n
  · unfold tokens boundF
    rw [fillL_length, if_pos hn, if_pos hn]
    exact ⟨rfl, rfl⟩
  · rw [tokens_eq (by rw [fillL_length]; exact hn), fillL_length]
    unfold boundF
    rw [if_neg hn]
    obtain rfl | rfl | rfl | rfl | rfl := hc
    · rw [fillL_same (by decide), toks_none n 0 (by rw [skip_blank, List.length_replicate])]
      exact ⟨rfl, rfl⟩
    · rw [fillL_same (by decide), toks_none n 0 (by rw [skip_hash1, List.length_replicate])]
      exact ⟨rfl, rfl⟩
    · obtain ⟨ts, e1, e2⟩ := toksF_a n n (by omega) (by omega)
      rw [e1]
      exact ⟨e2, rfl⟩
    · obtain ⟨m, rfl⟩ : ∃ m, n = m + 2 := ⟨n - 2, by omega⟩
      rw [fillL_same (by decide), toks_bang]
      exact ⟨rfl, rfl⟩
    · rw [fillL_same (by decide)]
      obtain ⟨ts, e1, e2⟩ := toks_semi n (n + 1) 0 (by omega)
      rw [e1]
      exact ⟨e2, rfl⟩
end Sc
set_option maxRecDepth 100000 in
set_option maxHeartbeats 1000000 in
theorem within_five (n : Int) (w : World) : Calls Tryd.prog 12 #[.int .i64 n, .int .i64 (-2), .int .i64 3] w fun e w' => ∃ N : Nat, e = .returned (.int .i64 ((N : Int) - 1048576)) ∧ 1048574 ≤ N ∧ N ≤ 1048579 ∧ w = w' := by
  obtain ⟨q, hq⟩ : ∃ q, q = n.tmod 6 := ⟨_, rfl⟩
  have hq1 : -6 < q ∧ q < 6 := by
    have := Int.tmod_lt_of_pos n (b := 6) (by omega)
    have := Int.lt_tmod_of_pos n (b := 6) (by omega)
    omega
  go_enter Tryd.func12, Tryd.ntmps12
  go_wp2_with fail
  all_goals (go_ret; rw [← hq] at *)
  · exact ⟨(q + 1048580).toNat, by rw [Int.toNat_of_nonneg (by omega), show q + 1048580 - 1048576 = -2 + (q + 3 + 2 + 1) from by omega]; rfl, by omega, by omega, rfl⟩
  · exact ⟨(q + 1048574).toNat, by rw [Int.toNat_of_nonneg (by omega), show q + 1048574 - 1048576 = -2 + q from by omega]; rfl, by omega, by omega, rfl⟩
set_option maxRecDepth 100000 in
set_option maxHeartbeats 1000000 in
theorem within_four (n : Int) (w : World) : Calls Tryd.prog 12 #[.int .i64 n, .int .i64 0, .int .i64 4] w fun e w' => ∃ r : Nat, e = .returned (.int .i64 (r : Int)) ∧ r ≤ 4 ∧ w = w' := by
  obtain ⟨q, hq⟩ : ∃ q, q = n.tmod 5 := ⟨_, rfl⟩
  have hq1 : -5 < q ∧ q < 5 := by
    have := Int.tmod_lt_of_pos n (b := 5) (by omega)
    have := Int.lt_tmod_of_pos n (b := 5) (by omega)
    omega
  go_enter Tryd.func12, Tryd.ntmps12
  go_wp2_with fail
  all_goals (go_ret; rw [← hq] at *)
  · exact ⟨(q + 5).toNat, by rw [Int.toNat_of_nonneg (by omega), show q + 5 = q + 4 + 1 from by omega]; rfl, by omega, rfl⟩
  · exact ⟨q.toNat, by rw [Int.toNat_of_nonneg (by omega)]; rfl, by omega, rfl⟩
set_option maxRecDepth 100000 in
set_option maxHeartbeats 1000000 in
theorem bound_walk {w : World} {n kind : Int} (ht : Tabs w) (h9 : 9 ≤ w.heap.size) : Calls Tryd.prog 5 #[.int .i64 n, .int .i64 kind] w fun e w' => e = .returned (.bool true) ∧ Below w.heap.size w w' := by
  have HT : Hid (Tabs w) := ht
  clear ht
  obtain ⟨i, hi, hz0, hz1, hz2⟩ := info_parts info_byte
  have HW1 : Hid (Calls Tryd.prog 12 #[.int .i64 n, .int .i64 (-2), .int .i64 3] w fun e w' => ∃ N : Nat, e = .returned (.int .i64 ((N : Int) - 1048576)) ∧ 1048574 ≤ N ∧ N ≤ 1048579 ∧ w = w') := within_five n w
  have HW2 : Hid (∀ W, Calls Tryd.prog 12 #[.int .i64 kind, .int .i64 0, .int .i64 4] W fun e w' => ∃ r : Nat, e = .returned (.int .i64 (r : Int)) ∧ r ≤ 4 ∧ W = w') := within_four kind
  go_enter Tryd.func5, Tryd.ntmps5
  go_wp2_with fail
  refine HW1.out.mono ?_
  rintro e w' ⟨N, rfl, hN1, hN2, rfl⟩
  clear HW1
  go_wp2_with (at_make; refine wpList_make_full _ rfl _ _ 26 rfl w.heap.size 5 i (.int .u8 0) 1 Tryd.underlying26 hi hz0 hz1 _ _ _ _ N rfl rfl (by omega) (by omega) (by rw [hz2]; omega) (by simp only [maxLen]; omega) (Nat.le_refl _) ?_)
  intro w1 hown hgrow
  have HR0 : Hid (Row w1 w.heap.size (List.replicate N 0)) := row_made hown
  have HB1 : Hid (Below w.heap.size w w1) := (Below.refl _ _).grown hgrow (Nat.le_refl _) (by simp)
  clear hown hgrow
  have hh := heap_alloc_new w1 (Obj.cells #[.int .u8 32, .int .u8 35, .int .u8 97, .int .u8 33, .int .u8 59] 5)
  have c0 : (w1.alloc (Obj.cells #[.int .u8 32, .int .u8 35, .int .u8 97, .int .u8 33, .int .u8 59] 5)).cell? ⟨w1.heap.size, 0, none⟩ = some (.int .u8 32) := (cell_of_row _ w1.heap.size 0 _ _ _ hh).trans rfl
  have c1 : (w1.alloc (Obj.cells #[.int .u8 32, .int .u8 35, .int .u8 97, .int .u8 33, .int .u8 59] 5)).cell? ⟨w1.heap.size, 1, none⟩ = some (.int .u8 35) := (cell_of_row _ w1.heap.size 1 _ _ _ hh).trans rfl
  have c2 : (w1.alloc (Obj.cells #[.int .u8 32, .int .u8 35, .int .u8 97, .int .u8 33, .int .u8 59] 5)).cell? ⟨w1.heap.size, 2, none⟩ = some (.int .u8 97) := (cell_of_row _ w1.heap.size 2 _ _ _ hh).trans rfl
  have c3 : (w1.alloc (Obj.cells #[.int .u8 32, .int .u8 35, .int .u8 97, .int .u8 33, .int .u8 59] 5)).cell? ⟨w1.heap.size, 3, none⟩ = some (.int .u8 33) := (cell_of_row _ w1.heap.size 3 _ _ _ hh).trans rfl
  have c4 : (w1.alloc (Obj.cells #[.int .u8 32, .int .u8 35, .int .u8 97, .int .u8 33, .int .u8 59] 5)).cell? ⟨w1.heap.size, 4, none⟩ = some (.int .u8 59) := (cell_of_row _ w1.heap.size 4 _ _ _ hh).trans rfl
  clear hh
  go_wp2_with fail
  refine (HW2.out _).mono ?_
  rintro e w' ⟨r, rfl, hr, rfl⟩
  clear HW2
  obtain ⟨c, hc, HC⟩ : ∃ c : Nat, (w1.alloc (Obj.cells #[.int .u8 32, .int .u8 35, .int .u8 97, .int .u8 33, .int .u8 59] 5)).cell? ⟨w1.heap.size, r, none⟩ = some (.int .u8 (c : Int)) ∧ Hid (c = 32 ∨ c = 35 ∨ c = 97 ∨ c = 33 ∨ c = 59) := by
    obtain rfl | rfl | rfl | rfl | rfl : r = 0 ∨ r = 1 ∨ r = 2 ∨ r = 3 ∨ r = 4 := by omega
    · exact ⟨32, c0, .inl rfl⟩
    · exact ⟨35, c1, .inr (.inl rfl)⟩
    · exact ⟨97, c2, .inr (.inr (.inl rfl))⟩
    · exact ⟨33, c3, .inr (.inr (.inr (.inl rfl)))⟩
    · exact ⟨59, c4, .inr (.inr (.inr (.inr rfl)))⟩
  clear c0 c1 c2 c3 c4
  have HB2 : Hid (Below w.heap.size w (w1.alloc (Obj.cells #[.int .u8 32, .int .u8 35, .int .u8 97, .int .u8 33, .int .u8 59] 5))) := HB1.out.alloc HB1.out.size _
  have HR1 : Hid (Row (w1.alloc (Obj.cells #[.int .u8 32, .int .u8 35, .int .u8 97, .int .u8 33, .int .u8 59] 5)) w.heap.size (fillUp c N 0)) := HR0.out.below ((Below.refl _ _).alloc (Nat.le_refl _) _)
  clear HR0 HB1
  go_wp2_with fail
  go_loopw [8] (fun i wr => ∃ k : Nat, k ≤ N ∧ i = .int .i64 (k : Int) ∧ Hid (Row wr w.heap.size (fillUp c N k)) ∧ Hid (Below w.heap.size w wr)) (fun i _ => N - (intOf i).toNat)
  case atStart => exact ⟨0, by omega, rfl, HR1, HB2⟩
  case round =>
    obtain ⟨k, hk, rfl, HR, HB⟩ := hrel
    clear HR1 HB2 hc
    by_cases hlt : k < N
    · have hcell := HR.out.cell k (by rw [fillUp_length hk]; omega)
      have hthaw := HR.out.thawed k
      generalize (fillUp c N k).getD k 0 = z at hcell
      have hm : (k : Int).tmod 20 = ((k % 20 : Nat) : Int) := rfl
      by_cases h1 : c = 97
      · by_cases h2 : k % 20 = 19
        · have hthaw2 := (HR.out.set k 97).thawed k
          go_wp2_with fail
          go_roundw
          case rel =>
            refine ⟨k + 1, by omega, by go_num, ?_, (HB.out.setCell (Nat.le_refl _) _).setCell (Nat.le_refl _) _⟩
            have h := (HR.out.set k 97).set k 32
            rw [List.set_set, show (fillUp c N k).set k 32 = fillUp c N (k + 1) from by rw [← fillUp_set hlt]; simp [fillB, h1, h2]] at h
            exact h
          case measure => simp [intOf]; omega
        · go_wp2_with fail
          go_roundw
          case rel =>
            refine ⟨k + 1, by omega, by go_num, ?_, HB.out.setCell (Nat.le_refl _) _⟩
            have h := HR.out.set k 97
            rw [show (fillUp c N k).set k 97 = fillUp c N (k + 1) from by rw [← fillUp_set hlt]; simp [fillB, h1, h2]] at h
            exact h
          case measure => simp [intOf]; omega
      · go_wp2_with fail
        go_roundw
        case rel =>
          refine ⟨k + 1, by omega, by go_num, ?_, HB.out.setCell (Nat.le_refl _) _⟩
          have h := HR.out.set k c
          rw [show (fillUp c N k).set k c = fillUp c N (k + 1) from by rw [← fillUp_set hlt]; simp [fillB, h1]] at h
          exact h
        case measure => simp [intOf]; omega
    · obtain rfl : k = N := by omega
      have hc256 : c < 256 := by rcases HC.out with rfl | rfl | rfl | rfl | rfl <;> decide
      have hr : Row wr w.heap.size (fillL c k) := by have h := HR.out; rwa [fillUp_end] at h
      have hsl := hr.sl (fillL_small hc256 k) 0 k k (by rw [fillL_length]; omega) (Nat.le_refl _) (by unfold maxLen; omega)
      rw [List.drop_zero, List.take_of_length_le (by rw [fillL_length]; exact Nat.le_refl _)] at hsl
      have HX : Hid (Calls Tryd.prog 9 #[.slice (some ⟨w.heap.size, 0, none⟩) k k] wr fun e w' => ∃ a cap, e = .returned (.tuple #[.slice a (boundF c k).1 cap, .int .i64 (((boundF c k).2.1 : Nat) : Int), .int .i64 (((boundF c k).2.2 : Nat) : Int)]) ∧ Below w.heap.size w w') := by
        refine (tokens_any (HT.out.below HB.out) hsl (fun j hj => by cases hj; exact hr.lt) (Nat.le_trans h9 HB.out.size)).mono ?_
        rintro e w' ⟨lv, rfl, ho, hb⟩
        obtain ⟨a, cap, rfl⟩ := ho.form
        obtain ⟨e1, e2⟩ := bound_tokens HC.out hN1 hN2
        rw [e1, e2]
        exact ⟨a, cap, rfl, HB.out.trans (hb.mono HB.out.size)⟩
      clear hr hsl HR hlt hk
      have HK : Hid (∀ W, Below w.heap.size w W → Calls Tryd.prog 10 #[] W fun e w' => e = .returned (.bool true) ∧ Below W.heap.size W w') := fun W hW => known_any (HT.out.below hW) (Nat.le_trans h9 hW.size)
      go_wp2_with fail
      refine HX.out.mono ?_
      rintro e w2 ⟨a, cap, rfl, hb⟩
      have HB2 : Hid (Below w.heap.size w w2) := hb
      clear hb HX HB
      by_cases hbig : 1048576 < k
      · have e0 : boundF c k = (0, 0, 3) := by unfold boundF; rw [if_pos hbig]
        rw [e0]
        go_wp2_with fail
        refine (HK.out _ HB2.out).mono ?_
        rintro e w3 ⟨rfl, hb3⟩
        go_wp2_with fail
        go_ret
        exact ⟨rfl, HB2.out.trans (hb3.mono HB2.out.size)⟩
      · obtain rfl | rfl | rfl | rfl | rfl := HC.out
        · have e0 : boundF 32 k = (0, 0, 0) := by unfold boundF; rw [if_neg hbig]; rfl
          rw [e0]
          have hq : (k : Int).tdiv 20 = ((k / 20 : Nat) : Int) := rfl
          go_wp2_with fail
          refine (HK.out _ HB2.out).mono ?_
          rintro e w3 ⟨rfl, hb3⟩
          go_wp2_with fail
          go_ret
          exact ⟨rfl, HB2.out.trans (hb3.mono HB2.out.size)⟩
        · have e0 : boundF 35 k = (0, 0, 0) := by unfold boundF; rw [if_neg hbig]; rfl
          rw [e0]
          have hq : (k : Int).tdiv 20 = ((k / 20 : Nat) : Int) := rfl
          go_wp2_with fail
          refine (HK.out _ HB2.out).mono ?_
          rintro e w3 ⟨rfl, hb3⟩
          go_wp2_with fail
          go_ret
          exact ⟨rfl, HB2.out.trans (hb3.mono HB2.out.size)⟩
        · have e0 : boundF 97 k = (k / 20 + 1, 0, 0) := by unfold boundF; rw [if_neg hbig]; rfl
          rw [e0]
          have hq : (k : Int).tdiv 20 = ((k / 20 : Nat) : Int) := rfl
          go_wp2_with fail
          refine (HK.out _ HB2.out).mono ?_
          rintro e w3 ⟨rfl, hb3⟩
          go_wp2_with fail
          go_ret
          exact ⟨rfl, HB2.out.trans (hb3.mono HB2.out.size)⟩
        · have e0 : boundF 33 k = (0, 1, 60) := by unfold boundF; rw [if_neg hbig]; rfl
          rw [e0]
          have hq : (k : Int).tdiv 20 = ((k / 20 : Nat) : Int) := rfl
          go_wp2_with fail
          refine (HK.out _ HB2.out).mono ?_
          rintro e w3 ⟨rfl, hb3⟩
          go_wp2_with fail
          go_ret
          exact ⟨rfl, HB2.out.trans (hb3.mono HB2.out.size)⟩
        · have e0 : boundF 59 k = (k, 0, 0) := by unfold boundF; rw [if_neg hbig]; rfl
          rw [e0]
          have hq : (k : Int).tdiv 20 = ((k / 20 : Nat) : Int) := rfl
          go_wp2_with fail
          refine (HK.out _ HB2.out).mono ?_
          rintro e w3 ⟨rfl, hb3⟩
          go_wp2_with fail
          go_ret
          exact ⟨rfl, HB2.out.trans (hb3.mono HB2.out.size)⟩
end Go.Proofs.YtbkjechdoaebnaaDoor
