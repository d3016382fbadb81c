/- address and Translate over a machine. Own work. -/
import Derived.Test.YtehedllcdpjebaaWkLeaf
namespace Go.Proofs.Ytehedllcdpjebaa
open Go.RowKit Go.Maps Go.Proofs.Ytehedllcdpjebaa.Sp Wk
theorem look_frame {rs : List Sp} {M : Nat → Nat} {a : Nat} {l : Int} {r : Ent × Int} {b : Bool} (h : LookR rs M a l r b) : r.1.1 ≤ 4294963200 := by
  obtain ⟨x, _, rfl⟩ := h
  cases b with
  | true => simp [no]
  | false =>
    simp only [Bool.false_eq_true, if_false]
    unfold entB
    split
    · simp [no]
    · split
      · simp [no]
      · split
        · show fr _ ≤ _
          unfold fr
          omega
        · simp [no]
theorem leaf_frame {rs : List Sp} {M : Nat → Nat} {v : Nat} {r : Ent × Int} {b : Bool} : ∀ {n l t : Nat}, LeafR rs M v n l t r b → r.1.1 ≤ 4294963200
  | 0, _, _, h => h.elim
  | n + 1, l, t, h => by
    obtain ⟨r0, b0, h0, h1 | h1⟩ := h
    · rw [h1.2.1]
      exact look_frame h0
    · exact leaf_frame h1.2.2
/-- where the leaf leads, or why not -/
def addrB (e : Ent × Int) (acc : Int) (v : Nat) : Nat × Int :=
  if e.2 ≠ 0 then (0, e.2) else if acc = 2 ∧ e.1.2.2.2.1 = false then (0, 43) else if acc = 3 ∧ e.1.2.2.2.2 = false then (0, 44) else if e.1.2.2.1 = true then (e.1.1 + v % 2097152, 0) else (e.1.1 + v % 4096, 0)
def AddrR (rs : List Sp) (M : Nat → Nat) (t v : Nat) (acc : Int) (r : Nat × Int) (b : Bool) : Prop :=
  if acc ≠ 1 ∧ acc ≠ 2 ∧ acc ≠ 3 then r = (0, 1) ∧ b = false
  else if 549755813888 ≤ v then r = (0, 40) ∧ b = false
  else if t % 4096 ≠ 0 then r = (0, 42) ∧ b = false
  else ∃ e, LeafR rs M v 3 0 t e b ∧ r = addrB e acc v
def AddrPost (w : World) (m B : Nat) (V : Value × Value × Value) (T : Nat → Option Nat) (M : Nat → Nat) (rs ds : List Sp) (L S X t v : Nat) (acc : Int) (e : Ending) (w' : World) : Prop :=
  ∃ (r : Nat × Int) (b : Bool), e = .returned (.tuple #[.int .u64 (r.1 : Int), .int .i64 r.2]) ∧ AddrR (rs ++ ds) M t v acc r b ∧ Mac w' m B V T M rs ds L S (up b X) ∧ Keeps (fun j => j = m) w w'
set_option maxRecDepth 100000 in
set_option maxHeartbeats 8000000 in
theorem address_any {w : World} {m B : Nat} {V : Value × Value × Value} {T : Nat → Option Nat} {M : Nat → Nat} {rs ds : List Sp} {L S X t v : Nat} {acc : Int} (h : Mac w m B V T M rs ds L S X) (ht : t ≤ 18446744073709551615) (hv : v ≤ 18446744073709551615) (hX : X ≤ 4611686018427387904) :
    Calls Try.prog 14 #[MemV m, .int .u64 (t : Int), .int .u64 (v : Int), .int .i64 acc] w (AddrPost w m B V T M rs ds L S X t v acc) := by
  have HM : Hid (Mac w m B V T M rs ds L S X) := h
  clear h
  have HLf : Hid (t % 4096 = 0 → Calls Try.prog 30 #[MemV m, .int .u64 (t : Int), .int .u64 (v : Int)] w fun e w' => ∃ r b, e = .returned (.tuple #[EntV r.1, .int .i64 r.2]) ∧ LeafR (rs ++ ds) M v 3 0 t r b ∧ Mac w' m B V T M rs ds L S (up b X) ∧ Keeps (fun j => j = m) w w') := fun h4 => leaf_any HM.out ht h4 hv hX
  have hml := HM.out.lt
  have HS : Hid (∀ r, AddrR (rs ++ ds) M t v acc r false → ∃ (r' : Nat × Int) (b : Bool), (Ending.returned (.tuple #[.int .u64 (r.1 : Int), .int .i64 r.2])) = .returned (.tuple #[.int .u64 (r'.1 : Int), .int .i64 r'.2]) ∧ AddrR (rs ++ ds) M t v acc r' b ∧ Mac w m B V T M rs ds L S (up b X) ∧ Keeps (fun j => j = m) w w) := fun r hr => ⟨r, false, rfl, hr, HM.out, Keeps.refl _ _⟩
  obtain ⟨t4, ht4⟩ : ∃ t4, t4 = t % 4096 := ⟨_, rfl⟩
  obtain ⟨vb, hvb⟩ : ∃ vb, vb = v % 2097152 := ⟨_, rfl⟩
  obtain ⟨vp, hvp⟩ : ∃ vp, vp = v % 4096 := ⟨_, rfl⟩
  have HT4 : Hid (t4 = t % 4096) := ht4
  have HVb : Hid (vb = v % 2097152) := hvb
  have HVp : Hid (vp = v % 4096) := hvp
  have e4 : (t : Int).tmod 4096 = (t4 : Int) := by rw [Int.tmod_eq_emod_of_nonneg (by omega), ht4]; omega
  have eb : (v : Int).tmod 2097152 = (vb : Int) := by rw [Int.tmod_eq_emod_of_nonneg (by omega), hvb]; omega
  have ep : (v : Int).tmod 4096 = (vp : Int) := by rw [Int.tmod_eq_emod_of_nonneg (by omega), hvp]; omega
  have lb : vb < 2097152 := by omega
  have lp : vp < 4096 := by omega
  clear ht4 hvb hvp
  unfold MemV at HLf ⊢
  obtain ⟨vi, hvi⟩ : ∃ vi : Int, vi = (v : Int) := ⟨_, rfl⟩
  rw [← hvi] at HLf eb ep ⊢
  have HVi : Hid (vi = (v : Int)) := hvi
  have hvi0 : 0 ≤ vi := by omega
  have hvi1 : vi ≤ 18446744073709551615 := by omega
  clear hvi hv
  go_enter Try.func14, Try.ntmps14
  by_cases hacc : acc ≠ 1 ∧ acc ≠ 2 ∧ acc ≠ 3
  · obtain ⟨h1, h2, h3⟩ := hacc
    have b1 : (acc != 1) = true := by simpa using h1
    have b2 : (acc != 2) = true := by simpa using h2
    have b3 : (acc != 3) = true := by simpa using h3
    go_wp2_with fail
    refine bodyPost_ret (v := .tuple #[.int .u64 ((0 : Nat) : Int), .int .i64 1]) (by simp [results, Try.results14, go_sem]) rfl ?_
    exact HS.out (0, 1) (by unfold AddrR; rw [if_pos ⟨h1, h2, h3⟩]; exact ⟨rfl, rfl⟩)
  · have hac : acc = 1 ∨ acc = 2 ∨ acc = 3 := by omega
    by_cases hvm : 549755813888 ≤ v
    · have HAll : Hid (AddrR (rs ++ ds) M t v acc (0, 40) false) := by show AddrR _ _ _ _ _ _ _; unfold AddrR; rw [if_neg hacc, if_pos hvm]; exact ⟨rfl, rfl⟩
      have hvm' : 549755813888 ≤ vi := by have := HVi.out; omega
      clear hacc hvm
      rcases hac with rfl | rfl | rfl
      all_goals
        go_wp2_with fail
        refine bodyPost_ret (v := .tuple #[.int .u64 ((0 : Nat) : Int), .int .i64 40]) (by simp [results, Try.results14, go_sem]) rfl ?_
        exact HS.out (0, 40) HAll.out
    · by_cases h4 : t4 = 0
      · have HAll : Hid (∀ e r b, LeafR (rs ++ ds) M v 3 0 t e b → r = addrB e acc v → AddrR (rs ++ ds) M t v acc r b) := fun e r b he hr => by
          unfold AddrR
          rw [if_neg hacc, if_neg hvm, if_neg (by rw [← HT4.out]; omega)]
          exact ⟨e, he, hr⟩
        have hvm' : vi < 549755813888 := by have := HVi.out; omega
        clear hacc HS hvm
        subst h4
        rcases hac with rfl | rfl | rfl
        · go_wp2_with fail
          refine (HLf.out HT4.out.symm).mono ?_
          rintro e w1 ⟨⟨⟨q0, q1, q2, q3, q4⟩, q5⟩, b, rfl, hr, hm1, hk1⟩
          have HR : Hid (LeafR (rs ++ ds) M v 3 0 t ((q0, q1, q2, q3, q4), q5) b) := hr
          have hq0 : q0 ≤ 4294963200 := leaf_frame hr
          have HM1 : Hid (Mac w1 m B V T M rs ds L S (up b X)) := hm1
          have HK1 : Hid (Keeps (fun j => j = m) w w1) := hk1
          clear hr hm1 hk1 HLf
          obtain ⟨W2, hW2⟩ : ∃ W2, w1.alloc (Obj.cells #[.int .u64 (q0 : Int), .bool q1, .bool q2, .bool q3, .bool q4] 67) = W2 := ⟨_, rfl⟩
          have HE2 : Hid (BoxE W2 w1.heap.size (q0, q1, q2, q3, q4)) := hW2 ▸ BoxE.new w1 (q0, q1, q2, q3, q4)
          have HB2 : Hid (Below w1.heap.size w1 W2) := hW2 ▸ (Below.refl _ _).alloc (Nat.le_refl _) _
          have HZ : Hid (∀ r : Nat × Int, r = addrB ((q0, q1, q2, q3, q4), q5) 1 v → AddrPost w m B V T M rs ds L S X t v 1 (.returned (.tuple #[.int .u64 (r.1 : Int), .int .i64 r.2])) W2) := fun r hr => ⟨r, b, rfl, HAll.out _ _ _ HR.out hr, HM1.out.below HB2.out, HK1.out.trans (Keeps.of_below (S := fun _ => False) HB2.out) (fun _ _ h => h.elim)⟩
          obtain ⟨y0, y1, y2, y3, y4⟩ := HE2.out.cells
          have z4 := HE2.out.frozen 4
          unfold EntV
          by_cases hq5 : q5 = 0
          · subst hq5
            cases q2 with
            | true =>
              go_wp2_with fail
              refine bodyPost_ret (v := .tuple #[.int .u64 ((q0 : Int) + (vb : Int)), .int .i64 0]) (by simp [results, Try.results14, go_sem]) rfl ?_
              exact HZ.out (q0 + vb, 0) (by simp [addrB, HVb.out])
            | false =>
              go_wp2_with fail
              refine bodyPost_ret (v := .tuple #[.int .u64 ((q0 : Int) + (vp : Int)), .int .i64 0]) (by simp [results, Try.results14, go_sem]) rfl ?_
              exact HZ.out (q0 + vp, 0) (by simp [addrB, HVp.out])
          · go_wp2_with fail
            refine bodyPost_ret (v := .tuple #[.int .u64 ((0 : Nat) : Int), .int .i64 q5]) (by simp [results, Try.results14, go_sem]) rfl ?_
            exact HZ.out (0, q5) (by simp [addrB, hq5])
        · go_wp2_with fail
          refine (HLf.out HT4.out.symm).mono ?_
          rintro e w1 ⟨⟨⟨q0, q1, q2, q3, q4⟩, q5⟩, b, rfl, hr, hm1, hk1⟩
          have HR : Hid (LeafR (rs ++ ds) M v 3 0 t ((q0, q1, q2, q3, q4), q5) b) := hr
          have hq0 : q0 ≤ 4294963200 := leaf_frame hr
          have HM1 : Hid (Mac w1 m B V T M rs ds L S (up b X)) := hm1
          have HK1 : Hid (Keeps (fun j => j = m) w w1) := hk1
          clear hr hm1 hk1 HLf
          obtain ⟨W2, hW2⟩ : ∃ W2, w1.alloc (Obj.cells #[.int .u64 (q0 : Int), .bool q1, .bool q2, .bool q3, .bool q4] 67) = W2 := ⟨_, rfl⟩
          have HE2 : Hid (BoxE W2 w1.heap.size (q0, q1, q2, q3, q4)) := hW2 ▸ BoxE.new w1 (q0, q1, q2, q3, q4)
          have HB2 : Hid (Below w1.heap.size w1 W2) := hW2 ▸ (Below.refl _ _).alloc (Nat.le_refl _) _
          have HZ : Hid (∀ r : Nat × Int, r = addrB ((q0, q1, q2, q3, q4), q5) 2 v → AddrPost w m B V T M rs ds L S X t v 2 (.returned (.tuple #[.int .u64 (r.1 : Int), .int .i64 r.2])) W2) := fun r hr => ⟨r, b, rfl, HAll.out _ _ _ HR.out hr, HM1.out.below HB2.out, HK1.out.trans (Keeps.of_below (S := fun _ => False) HB2.out) (fun _ _ h => h.elim)⟩
          obtain ⟨y0, y1, y2, y3, y4⟩ := HE2.out.cells
          have z4 := HE2.out.frozen 4
          unfold EntV
          by_cases hq5 : q5 = 0
          · subst hq5
            cases q3 with
            | false =>
              go_wp2_with fail
              refine bodyPost_ret (v := .tuple #[.int .u64 ((0 : Nat) : Int), .int .i64 43]) (by simp [results, Try.results14, go_sem]) rfl ?_
              exact HZ.out (0, 43) (by simp [addrB])
            | true =>
              cases q2 with
              | true =>
                go_wp2_with fail
                refine bodyPost_ret (v := .tuple #[.int .u64 ((q0 : Int) + (vb : Int)), .int .i64 0]) (by simp [results, Try.results14, go_sem]) rfl ?_
                exact HZ.out (q0 + vb, 0) (by simp [addrB, HVb.out])
              | false =>
                go_wp2_with fail
                refine bodyPost_ret (v := .tuple #[.int .u64 ((q0 : Int) + (vp : Int)), .int .i64 0]) (by simp [results, Try.results14, go_sem]) rfl ?_
                exact HZ.out (q0 + vp, 0) (by simp [addrB, HVp.out])
          · go_wp2_with fail
            refine bodyPost_ret (v := .tuple #[.int .u64 ((0 : Nat) : Int), .int .i64 q5]) (by simp [results, Try.results14, go_sem]) rfl ?_
            exact HZ.out (0, q5) (by simp [addrB, hq5])
        · go_wp2_with fail
          refine (HLf.out HT4.out.symm).mono ?_
          rintro e w1 ⟨⟨⟨q0, q1, q2, q3, q4⟩, q5⟩, b, rfl, hr, hm1, hk1⟩
          have HR : Hid (LeafR (rs ++ ds) M v 3 0 t ((q0, q1, q2, q3, q4), q5) b) := hr
          have hq0 : q0 ≤ 4294963200 := leaf_frame hr
          have HM1 : Hid (Mac w1 m B V T M rs ds L S (up b X)) := hm1
          have HK1 : Hid (Keeps (fun j => j = m) w w1) := hk1
          clear hr hm1 hk1 HLf
          obtain ⟨W2, hW2⟩ : ∃ W2, w1.alloc (Obj.cells #[.int .u64 (q0 : Int), .bool q1, .bool q2, .bool q3, .bool q4] 67) = W2 := ⟨_, rfl⟩
          have HE2 : Hid (BoxE W2 w1.heap.size (q0, q1, q2, q3, q4)) := hW2 ▸ BoxE.new w1 (q0, q1, q2, q3, q4)
          have HB2 : Hid (Below w1.heap.size w1 W2) := hW2 ▸ (Below.refl _ _).alloc (Nat.le_refl _) _
          have HZ : Hid (∀ r : Nat × Int, r = addrB ((q0, q1, q2, q3, q4), q5) 3 v → AddrPost w m B V T M rs ds L S X t v 3 (.returned (.tuple #[.int .u64 (r.1 : Int), .int .i64 r.2])) W2) := fun r hr => ⟨r, b, rfl, HAll.out _ _ _ HR.out hr, HM1.out.below HB2.out, HK1.out.trans (Keeps.of_below (S := fun _ => False) HB2.out) (fun _ _ h => h.elim)⟩
          obtain ⟨y0, y1, y2, y3, y4⟩ := HE2.out.cells
          have z4 := HE2.out.frozen 4
          unfold EntV
          by_cases hq5 : q5 = 0
          · subst hq5
            cases q4 with
            | false =>
              go_wp2_with fail
              refine bodyPost_ret (v := .tuple #[.int .u64 ((0 : Nat) : Int), .int .i64 44]) (by simp [results, Try.results14, go_sem]) rfl ?_
              exact ⟨(0, 44), b, rfl, HAll.out _ _ _ HR.out (by simp [addrB]), (HM1.out.below HB2.out).keeps (Keeps.setCell _ w1.heap.size _ _) (fun j hj e => by have := HM.out.mine_lt hj; have := HK1.out.size; omega), (HK1.out.trans (Keeps.of_below (S := fun _ => False) HB2.out) (fun _ _ h => h.elim)).trans (Keeps.setCell _ w1.heap.size _ _) (fun i hi e => absurd e (by have := HK1.out.size; omega))⟩
            | true =>
              cases q2 with
              | true =>
                go_wp2_with fail
                refine bodyPost_ret (v := .tuple #[.int .u64 ((q0 : Int) + (vb : Int)), .int .i64 0]) (by simp [results, Try.results14, go_sem]) rfl ?_
                exact HZ.out (q0 + vb, 0) (by simp [addrB, HVb.out])
              | false =>
                go_wp2_with fail
                refine bodyPost_ret (v := .tuple #[.int .u64 ((q0 : Int) + (vp : Int)), .int .i64 0]) (by simp [results, Try.results14, go_sem]) rfl ?_
                exact HZ.out (q0 + vp, 0) (by simp [addrB, HVp.out])
          · go_wp2_with fail
            refine bodyPost_ret (v := .tuple #[.int .u64 ((0 : Nat) : Int), .int .i64 q5]) (by simp [results, Try.results14, go_sem]) rfl ?_
            exact HZ.out (0, q5) (by simp [addrB, hq5])
      · have HAll : Hid (AddrR (rs ++ ds) M t v acc (0, 42) false) := by show AddrR _ _ _ _ _ _ _; unfold AddrR; rw [if_neg hacc, if_neg hvm, if_pos (by rw [← HT4.out]; exact h4)]; exact ⟨rfl, rfl⟩
        have hvm' : vi < 549755813888 := by have := HVi.out; omega
        clear hacc hvm
        rcases hac with rfl | rfl | rfl
        all_goals
          go_wp2_with fail
          refine bodyPost_ret (v := .tuple #[.int .u64 ((0 : Nat) : Int), .int .i64 42]) (by simp [results, Try.results14, go_sem]) rfl ?_
          exact HS.out (0, 42) HAll.out
end Go.Proofs.Ytehedllcdpjebaa
