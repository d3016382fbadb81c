import Derived.Test.YtdkhhofgfbnmkaaGreatPf13
import Derived.Lib.Hide
import Derived.Deep.RegionHeld3
import Derived.Deep.DeepCutAuto
import Derived.Deep.CutBlock
/- address and Translate over a machine. Own work. -/
namespace Go.Proofs.YtdkhhofgfbnmkaaGreat
open Go.RowKit Go.Maps Go.Proofs.YtdkhhofgfbnmkaaGreat.Sp Wk
theorem look_frame {rs : List Sp} {M : Nat → Nat} {a : Nat} {l : Int} {r : Ent × Int} {b : Bool} (h : LookR rs M a l r b) : r.1.1 ≤ 4294963200 := by
  obtain ⟨x, _, rfl⟩ := h
  cases b with
  | true => simp [no]
  | false =>
    simp only [Bool.false_eq_true, if_false]
    unfold entB
    split
    · simp [no]
    · split
      · simp [no]
      · split
        · show fr _ ≤ _
          unfold fr
          omega
        · simp [no]
theorem leaf_frame {rs : List Sp} {M : Nat → Nat} {v : Nat} {r : Ent × Int} {b : Bool} : ∀ {n l t : Nat}, LeafR rs M v n l t r b → r.1.1 ≤ 4294963200
  | 0, _, _, h => h.elim
  | n + 1, l, t, h => by
    obtain ⟨r0, b0, h0, h1 | h1⟩ := h
    · rw [h1.2.1]
      exact look_frame h0
    · exact leaf_frame h1.2.2
/-- where the leaf leads, or why not -/
def addrB (e : Ent × Int) (acc : Int) (v : Nat) : Nat × Int :=
  if e.2 ≠ 0 then (0, e.2) else if acc = 2 ∧ e.1.2.2.2.1 = false then (0, 43) else if acc = 3 ∧ e.1.2.2.2.2 = false then (0, 44) else if e.1.2.2.1 = true then (e.1.1 + v % 2097152, 0) else (e.1.1 + v % 4096, 0)
def AddrR (rs : List Sp) (M : Nat → Nat) (t v : Nat) (acc : Int) (r : Nat × Int) (b : Bool) : Prop :=
  if acc ≠ 1 ∧ acc ≠ 2 ∧ acc ≠ 3 then r = (0, 1) ∧ b = false
  else if 549755813888 ≤ v then r = (0, 40) ∧ b = false
  else if t % 4096 ≠ 0 then r = (0, 42) ∧ b = false
  else ∃ e, LeafR rs M v 3 0 t e b ∧ r = addrB e acc v
def AddrPost (w : World) (m B : Nat) (V : Value × Value × Value) (T : Nat → Option Nat) (M : Nat → Nat) (rs ds : List Sp) (L S X t v : Nat) (acc : Int) (e : Ending) (w' : World) : Prop :=
  ∃ (r : Nat × Int) (b : Bool), e = .returned (.tuple #[.int .u64 (r.1 : Int), .int .i64 r.2]) ∧ AddrR (rs ++ ds) M t v acc r b ∧ Mac w' m B V T M rs ds L S (up b X) ∧ Keeps (fun j => j = m) w w'
set_option maxRecDepth 100000 in
set_option maxHeartbeats 8000000 in
theorem address_any {w : World} {m B : Nat} {V : Value × Value × Value} {T : Nat → Option Nat} {M : Nat → Nat} {rs ds : List Sp} {L S X t v : Nat} {acc : Int} (h : Mac w m B V T M rs ds L S X) (ht : t ≤ 18446744073709551615) (hv : v ≤ 18446744073709551615) (hX : X ≤ 4611686018427387904) :
    Calls Tryz.prog 43 #[MemV m, .int .u64 (t : Int), .int .u64 (v : Int), .int .i64 acc] w (AddrPost w m B V T M rs ds L S X t v acc) := by
  have HM : Hid (Mac w m B V T M rs ds L S X) := h
  clear h
  have HLf : Hid (t % 4096 = 0 → Calls Tryz.prog 75 #[MemV m, .int .u64 (t : Int), .int .u64 (v : Int)] w fun e w' => ∃ r b, e = .returned (.tuple #[EntV r.1, .int .i64 r.2]) ∧ LeafR (rs ++ ds) M v 3 0 t r b ∧ Mac w' m B V T M rs ds L S (up b X) ∧ Keeps (fun j => j = m) w w') := fun h4 => leaf_any HM.out ht h4 hv hX
  have hml := HM.out.lt
  have HS : Hid (∀ r, AddrR (rs ++ ds) M t v acc r false → ∃ (r' : Nat × Int) (b : Bool), (Ending.returned (.tuple #[.int .u64 (r.1 : Int), .int .i64 r.2])) = .returned (.tuple #[.int .u64 (r'.1 : Int), .int .i64 r'.2]) ∧ AddrR (rs ++ ds) M t v acc r' b ∧ Mac w m B V T M rs ds L S (up b X) ∧ Keeps (fun j => j = m) w w) := fun r hr => ⟨r, false, rfl, hr, HM.out, Keeps.refl _ _⟩
  obtain ⟨t4, ht4⟩ : ∃ t4, t4 = t % 4096 := ⟨_, rfl⟩
  obtain ⟨vb, hvb⟩ : ∃ vb, vb = v % 2097152 := ⟨_, rfl⟩
  obtain ⟨vp, hvp⟩ : ∃ vp, vp = v % 4096 := ⟨_, rfl⟩
  have HT4 : Hid (t4 = t % 4096) := ht4
  have HVb : Hid (vb = v % 2097152) := hvb
  have HVp : Hid (vp = v % 4096) := hvp
  have e4 : (t : Int).tmod 4096 = (t4 : Int) := by rw [Int.tmod_eq_emod_of_nonneg (by omega), ht4]; omega
  have eb : (v : Int).tmod 2097152 = (vb : Int) := by rw [Int.tmod_eq_emod_of_nonneg (by omega), hvb]; omega
  have ep : (v : Int).tmod 4096 = (vp : Int) := by rw [Int.tmod_eq_emod_of_nonneg (by omega), hvp]; omega
  have lb : vb < 2097152 := by omega
  have lp : vp < 4096 := by omega
  clear ht4 hvb hvp
  unfold MemV at HLf ⊢
  obtain ⟨vi, hvi⟩ : ∃ vi : Int, vi = (v : Int) := ⟨_, rfl⟩
  rw [← hvi] at HLf eb ep ⊢
  have HVi : Hid (vi = (v : Int)) := hvi
  have hvi0 : 0 ≤ vi := by omega
  have hvi1 : vi ≤ 18446744073709551615 := by omega
  clear hvi hv
  go_enter Tryz.func43, Tryz.ntmps43
  by_cases hacc : acc ≠ 1 ∧ acc ≠ 2 ∧ acc ≠ 3
  · obtain ⟨h1, h2, h3⟩ := hacc
    have b1 : (acc != 1) = true := by simpa using h1
    have b2 : (acc != 2) = true := by simpa using h2
    have b3 : (acc != 3) = true := by simpa using h3
    go_wp2_with fail
    refine bodyPost_ret (v := .tuple #[.int .u64 ((0 : Nat) : Int), .int .i64 1]) (by simp [results, Tryz.results43, go_sem]) rfl ?_
    exact HS.out (0, 1) (by unfold AddrR; rw [if_pos ⟨h1, h2, h3⟩]; exact ⟨rfl, rfl⟩)
  · have hac : acc = 1 ∨ acc = 2 ∨ acc = 3 := by omega
    by_cases hvm : 549755813888 ≤ v
    · have HAll : Hid (AddrR (rs ++ ds) M t v acc (0, 40) false) := by show AddrR _ _ _ _ _ _ _; unfold AddrR; rw [if_neg hacc, if_pos hvm]; exact ⟨rfl, rfl⟩
      have hvm' : 549755813888 ≤ vi := by have := HVi.out; omega
      clear hacc hvm
      rcases hac with rfl | rfl | rfl
      all_goals
        go_wp2_with fail
        refine bodyPost_ret (v := .tuple #[.int .u64 ((0 : Nat) : Int), .int .i64 40]) (by simp [results, Tryz.results43, go_sem]) rfl ?_
        exact HS.out (0, 40) HAll.out
    · by_cases h4 : t4 = 0
      · have HAll : Hid (∀ e r b, LeafR (rs ++ ds) M v 3 0 t e b → r = addrB e acc v → AddrR (rs ++ ds) M t v acc r b) := fun e r b he hr => by
          unfold AddrR
          rw [if_neg hacc, if_neg hvm, if_neg (by rw [← HT4.out]; omega)]
          exact ⟨e, he, hr⟩
        have hvm' : vi < 549755813888 := by have := HVi.out; omega
        clear hacc HS hvm
        subst h4
        rcases hac with rfl | rfl | rfl
        · go_wp2_with fail
          refine (HLf.out HT4.out.symm).mono ?_
          rintro e w1 ⟨⟨⟨q0, q1, q2, q3, q4⟩, q5⟩, b, rfl, hr, hm1, hk1⟩
          have HR : Hid (LeafR (rs ++ ds) M v 3 0 t ((q0, q1, q2, q3, q4), q5) b) := hr
          have hq0 : q0 ≤ 4294963200 := leaf_frame hr
          have HM1 : Hid (Mac w1 m B V T M rs ds L S (up b X)) := hm1
          have HK1 : Hid (Keeps (fun j => j = m) w w1) := hk1
          clear hr hm1 hk1 HLf
          obtain ⟨W2, hW2⟩ : ∃ W2, w1.alloc (Obj.cells #[.int .u64 (q0 : Int), .bool q1, .bool q2, .bool q3, .bool q4] 104) = W2 := ⟨_, rfl⟩
          have HE2 : Hid (BoxE W2 w1.heap.size (q0, q1, q2, q3, q4)) := hW2 ▸ BoxE.new w1 (q0, q1, q2, q3, q4)
          have HB2 : Hid (Below w1.heap.size w1 W2) := hW2 ▸ (Below.refl _ _).alloc (Nat.le_refl _) _
          have HZ : Hid (∀ r : Nat × Int, r = addrB ((q0, q1, q2, q3, q4), q5) 1 v → AddrPost w m B V T M rs ds L S X t v 1 (.returned (.tuple #[.int .u64 (r.1 : Int), .int .i64 r.2])) W2) := fun r hr => ⟨r, b, rfl, HAll.out _ _ _ HR.out hr, HM1.out.below HB2.out, HK1.out.trans (Keeps.of_below (S := fun _ => False) HB2.out) (fun _ _ h => h.elim)⟩
          obtain ⟨y0, y1, y2, y3, y4⟩ := HE2.out.cells
          have z4 := HE2.out.frozen 4
          unfold EntV
          by_cases hq5 : q5 = 0
          · subst hq5
            cases q2 with
            | true =>
              go_wp2_with fail
              refine bodyPost_ret (v := .tuple #[.int .u64 ((q0 : Int) + (vb : Int)), .int .i64 0]) (by simp [results, Tryz.results43, go_sem]) rfl ?_
              exact HZ.out (q0 + vb, 0) (by simp [addrB, HVb.out])
            | false =>
              go_wp2_with fail
              refine bodyPost_ret (v := .tuple #[.int .u64 ((q0 : Int) + (vp : Int)), .int .i64 0]) (by simp [results, Tryz.results43, go_sem]) rfl ?_
              exact HZ.out (q0 + vp, 0) (by simp [addrB, HVp.out])
          · go_wp2_with fail
            refine bodyPost_ret (v := .tuple #[.int .u64 ((0 : Nat) : Int), .int .i64 q5]) (by simp [results, Tryz.results43, go_sem]) rfl ?_
            exact HZ.out (0, q5) (by simp [addrB, hq5])
        · go_wp2_with fail
          refine (HLf.out HT4.out.symm).mono ?_
          rintro e w1 ⟨⟨⟨q0, q1, q2, q3, q4⟩, q5⟩, b, rfl, hr, hm1, hk1⟩
          have HR : Hid (LeafR (rs ++ ds) M v 3 0 t ((q0, q1, q2, q3, q4), q5) b) := hr
          have hq0 : q0 ≤ 4294963200 := leaf_frame hr
          have HM1 : Hid (Mac w1 m B V T M rs ds L S (up b X)) := hm1
          have HK1 : Hid (Keeps (fun j => j = m) w w1) := hk1
          clear hr hm1 hk1 HLf
          obtain ⟨W2, hW2⟩ : ∃ W2, w1.alloc (Obj.cells #[.int .u64 (q0 : Int), .bool q1, .bool q2, .bool q3, .bool q4] 104) = W2 := ⟨_, rfl⟩
          have HE2 : Hid (BoxE W2 w1.heap.size (q0, q1, q2, q3, q4)) := hW2 ▸ BoxE.new w1 (q0, q1, q2, q3, q4)
          have HB2 : Hid (Below w1.heap.size w1 W2) := hW2 ▸ (Below.refl _ _).alloc (Nat.le_refl _) _
          have HZ : Hid (∀ r : Nat × Int, r = addrB ((q0, q1, q2, q3, q4), q5) 2 v → AddrPost w m B V T M rs ds L S X t v 2 (.returned (.tuple #[.int .u64 (r.1 : Int), .int .i64 r.2])) W2) := fun r hr => ⟨r, b, rfl, HAll.out _ _ _ HR.out hr, HM1.out.below HB2.out, HK1.out.trans (Keeps.of_below (S := fun _ => False) HB2.out) (fun _ _ h => h.elim)⟩
          obtain ⟨y0, y1, y2, y3, y4⟩ := HE2.out.cells
          have z4 := HE2.out.frozen 4
          unfold EntV
          by_cases hq5 : q5 = 0
          · subst hq5
            cases q3 with
            | false =>
              go_wp2_with fail
              refine bodyPost_ret (v := .tuple #[.int .u64 ((0 : Nat) : Int), .int .i64 43]) (by simp [results, Tryz.results43, go_sem]) rfl ?_
              exact HZ.out (0, 43) (by simp [addrB])
            | true =>
              cases q2 with
              | true =>
                go_wp2_with fail
                refine bodyPost_ret (v := .tuple #[.int .u64 ((q0 : Int) + (vb : Int)), .int .i64 0]) (by simp [results, Tryz.results43, go_sem]) rfl ?_
                exact HZ.out (q0 + vb, 0) (by simp [addrB, HVb.out])
              | false =>
                go_wp2_with fail
                refine bodyPost_ret (v := .tuple #[.int .u64 ((q0 : Int) + (vp : Int)), .int .i64 0]) (by simp [results, Tryz.results43, go_sem]) rfl ?_
                exact HZ.out (q0 + vp, 0) (by simp [addrB, HVp.out])
          · go_wp2_with fail
            refine bodyPost_ret (v := .tuple #[.int .u64 ((0 : Nat) : Int), .int .i64 q5]) (by simp [results, Tryz.results43, go_sem]) rfl ?_
            exact HZ.out (0, q5) (by simp [addrB, hq5])
        · go_wp2_with fail
          refine (HLf.out HT4.out.symm).mono ?_
          rintro e w1 ⟨⟨⟨q0, q1, q2, q3, q4⟩, q5⟩, b, rfl, hr, hm1, hk1⟩
          have HR : Hid (LeafR (rs ++ ds) M v 3 0 t ((q0, q1, q2, q3, q4), q5) b) := hr
          have hq0 : q0 ≤ 4294963200 := leaf_frame hr
          have HM1 : Hid (Mac w1 m B V T M rs ds L S (up b X)) := hm1
          have HK1 : Hid (Keeps (fun j => j = m) w w1) := hk1
          clear hr hm1 hk1 HLf
          obtain ⟨W2, hW2⟩ : ∃ W2, w1.alloc (Obj.cells #[.int .u64 (q0 : Int), .bool q1, .bool q2, .bool q3, .bool q4] 104) = W2 := ⟨_, rfl⟩
          have HE2 : Hid (BoxE W2 w1.heap.size (q0, q1, q2, q3, q4)) := hW2 ▸ BoxE.new w1 (q0, q1, q2, q3, q4)
          have HB2 : Hid (Below w1.heap.size w1 W2) := hW2 ▸ (Below.refl _ _).alloc (Nat.le_refl _) _
          have HZ : Hid (∀ r : Nat × Int, r = addrB ((q0, q1, q2, q3, q4), q5) 3 v → AddrPost w m B V T M rs ds L S X t v 3 (.returned (.tuple #[.int .u64 (r.1 : Int), .int .i64 r.2])) W2) := fun r hr => ⟨r, b, rfl, HAll.out _ _ _ HR.out hr, HM1.out.below HB2.out, HK1.out.trans (Keeps.of_below (S := fun _ => False) HB2.out) (fun _ _ h => h.elim)⟩
          obtain ⟨y0, y1, y2, y3, y4⟩ := HE2.out.cells
          have z4 := HE2.out.frozen 4
          unfold EntV
          by_cases hq5 : q5 = 0
          · subst hq5
            cases q4 with
            | false =>
              go_wp2_with fail
              refine bodyPost_ret (v := .tuple #[.int .u64 ((0 : Nat) : Int), .int .i64 44]) (by simp [results, Tryz.results43, go_sem]) rfl ?_
              exact ⟨(0, 44), b, rfl, HAll.out _ _ _ HR.out (by simp [addrB]), (HM1.out.below HB2.out).keeps (Keeps.setCell _ w1.heap.size _ _) (fun j hj e => by have := HM.out.mine_lt hj; have := HK1.out.size; omega), (HK1.out.trans (Keeps.of_below (S := fun _ => False) HB2.out) (fun _ _ h => h.elim)).trans (Keeps.setCell _ w1.heap.size _ _) (fun i hi e => absurd e (by have := HK1.out.size; omega))⟩
            | true =>
              cases q2 with
              | true =>
                go_wp2_with fail
                refine bodyPost_ret (v := .tuple #[.int .u64 ((q0 : Int) + (vb : Int)), .int .i64 0]) (by simp [results, Tryz.results43, go_sem]) rfl ?_
                exact HZ.out (q0 + vb, 0) (by simp [addrB, HVb.out])
              | false =>
                go_wp2_with fail
                refine bodyPost_ret (v := .tuple #[.int .u64 ((q0 : Int) + (vp : Int)), .int .i64 0]) (by simp [results, Tryz.results43, go_sem]) rfl ?_
                exact HZ.out (q0 + vp, 0) (by simp [addrB, HVp.out])
          · go_wp2_with fail
            refine bodyPost_ret (v := .tuple #[.int .u64 ((0 : Nat) : Int), .int .i64 q5]) (by simp [results, Tryz.results43, go_sem]) rfl ?_
            exact HZ.out (0, q5) (by simp [addrB, hq5])
      · have HAll : Hid (AddrR (rs ++ ds) M t v acc (0, 42) false) := by show AddrR _ _ _ _ _ _ _; unfold AddrR; rw [if_neg hacc, if_neg hvm, if_pos (by rw [← HT4.out]; exact h4)]; exact ⟨rfl, rfl⟩
        have hvm' : vi < 549755813888 := by have := HVi.out; omega
        clear hacc hvm
        rcases hac with rfl | rfl | rfl
        all_goals
          go_wp2_with fail
          refine bodyPost_ret (v := .tuple #[.int .u64 ((0 : Nat) : Int), .int .i64 42]) (by simp [results, Tryz.results43, go_sem]) rfl ?_
          exact HS.out (0, 42) HAll.out
end Go.Proofs.YtdkhhofgfbnmkaaGreat
/- Where an address leads, as a function; Translate over a machine. Own work. -/
namespace Go.Proofs.YtdkhhofgfbnmkaaGreat
open Go.RowKit Go.Maps Go.Proofs.YtdkhhofgfbnmkaaGreat.Sp Wk
open Classical in
noncomputable def lookF (rs : List Sp) (M : Nat → Nat) (a : Nat) (l : Int) : Ent × Int := if ∀ i : Nat, i < 8 → On rs ((a : Int) + i) then entB (Pl.num 8 (rdTo M a 8 8)) l else (no, 42)
theorem look_is {rs : List Sp} {M : Nat → Nat} {a : Nat} {l : Int} {r : Ent × Int} {b : Bool} (h : LookR rs M a l r b) : r = lookF rs M a l := by
  obtain ⟨x, ho, rfl⟩ := h
  unfold lookF
  cases b with
  | true =>
    obtain ⟨i, hi, _, _, hn, _⟩ := ho.1 rfl
    show (no, 42) = _
    rw [if_neg (fun h => hn (h i hi))]
  | false =>
    show entB _ _ = _
    rw [if_pos (ho.2 rfl).2]
noncomputable def leafF (rs : List Sp) (M : Nat → Nat) (v : Nat) : Nat → Nat → Nat → Ent × Int
  | 0, _, _ => (no, 42)
  | n + 1, l, t => if (lookF rs M (t + 8 * (v / (4096 * pgs l) % 512)) (l : Int)).2 ≠ 0 ∨ (lookF rs M (t + 8 * (v / (4096 * pgs l) % 512)) (l : Int)).1.2.1 = false then lookF rs M (t + 8 * (v / (4096 * pgs l) % 512)) (l : Int) else leafF rs M v n (l + 1) (lookF rs M (t + 8 * (v / (4096 * pgs l) % 512)) (l : Int)).1.1
theorem leaf_is {rs : List Sp} {M : Nat → Nat} {v : Nat} {r : Ent × Int} {b : Bool} : ∀ {n l t : Nat}, LeafR rs M v n l t r b → r = leafF rs M v n l t
  | 0, _, _, h => h.elim
  | n + 1, l, t, h => by
    obtain ⟨r0, b0, h0, h1⟩ := h
    have e := look_is h0
    rw [leafF, ← e]
    rcases h1 with ⟨h1, h2, _⟩ | ⟨h1, h2, h3⟩
    · rw [if_pos h1, h2]
    · rw [if_neg (by simp [h1, h2])]
      exact leaf_is h3
noncomputable def adrF (rs : List Sp) (M : Nat → Nat) (t v : Nat) (acc : Int) : Nat × Int :=
  if acc ≠ 1 ∧ acc ≠ 2 ∧ acc ≠ 3 then (0, 1) else if 549755813888 ≤ v then (0, 40) else if t % 4096 ≠ 0 then (0, 42) else addrB (leafF rs M v 3 0 t) acc v
theorem addr_is {rs : List Sp} {M : Nat → Nat} {t v : Nat} {acc : Int} {r : Nat × Int} {b : Bool} (h : AddrR rs M t v acc r b) : r = adrF rs M t v acc := by
  unfold AddrR at h
  unfold adrF
  split at h
  · rw [if_pos (by assumption)]; exact h.1
  · rename_i h1
    rw [if_neg h1]
    split at h
    · rw [if_pos (by assumption)]; exact h.1
    · rename_i h2
      rw [if_neg h2]
      split at h
      · rw [if_pos (by assumption)]; exact h.1
      · rename_i h3
        rw [if_neg h3]
        obtain ⟨e, h4, h5⟩ := h
        rw [h5, leaf_is h4]
theorem addrB_zero {e : Ent × Int} {acc : Int} {v : Nat} (h : (addrB e acc v).2 ≠ 0) : (addrB e acc v).1 = 0 := by
  unfold addrB at h ⊢
  split
  · rfl
  · split
    · rfl
    · split
      · rfl
      · rename_i h1 h2 h3
        rw [if_neg h1, if_neg h2, if_neg h3] at h
        split at h <;> exact absurd rfl h
theorem adrF_zero {rs : List Sp} {M : Nat → Nat} {t v : Nat} {acc : Int} (h : (adrF rs M t v acc).2 ≠ 0) : (adrF rs M t v acc).1 = 0 := by
  unfold adrF at h ⊢
  split
  · rfl
  · rename_i h1
    rw [if_neg h1] at h
    split
    · rfl
    · rename_i h2
      rw [if_neg h2] at h
      split
      · rfl
      · rename_i h3
        rw [if_neg h3] at h
        exact addrB_zero h
theorem lookF_frame (rs : List Sp) (M : Nat → Nat) (a : Nat) (l : Int) : (lookF rs M a l).1.1 ≤ 4294963200 := by
  unfold lookF
  by_cases h : ∀ i : Nat, i < 8 → On rs ((a : Int) + i)
  · rw [if_pos h]
    exact look_frame (rs := rs) (M := M) (a := a) (l := l) (b := false) ⟨0, ⟨fun h => (by cases h), fun _ => ⟨rfl, h⟩⟩, rfl⟩
  · rw [if_neg h]
    show (0 : Nat) ≤ _
    omega
theorem leafF_frame (rs : List Sp) (M : Nat → Nat) (v : Nat) : ∀ n l t, (leafF rs M v n l t).1.1 ≤ 4294963200
  | 0, _, _ => Nat.zero_le _
  | n + 1, l, t => by
    rw [leafF]
    split
    · exact lookF_frame _ _ _ _
    · exact leafF_frame rs M v n _ _
theorem adrF_le (rs : List Sp) (M : Nat → Nat) (t v : Nat) (acc : Int) : (adrF rs M t v acc).1 ≤ 18446744073709551615 := by
  unfold adrF
  split
  · exact Nat.zero_le _
  · split
    · exact Nat.zero_le _
    · split
      · exact Nat.zero_le _
      · have := leafF_frame rs M v 3 0 t
        unfold addrB
        split
        · exact Nat.zero_le _
        · split
          · exact Nat.zero_le _
          · split
            · exact Nat.zero_le _
            · split
              · show _ + v % 2097152 ≤ _; omega
              · show _ + v % 4096 ≤ _; omega
/-- a machine whose meter is at most n -/
def Mx (w : World) (m B : Nat) (V : Value × Value × Value) (T : Nat → Option Nat) (M : Nat → Nat) (rs ds : List Sp) (n : Nat) : Prop := ∃ L S X, L ≤ n ∧ S ≤ n ∧ X ≤ n ∧ Mac w m B V T M rs ds L S X
theorem Mx.mono {w : World} {m B : Nat} {V : Value × Value × Value} {T : Nat → Option Nat} {M : Nat → Nat} {rs ds : List Sp} {n k : Nat} (h : Mx w m B V T M rs ds n) (hk : n ≤ k) : Mx w m B V T M rs ds k := by
  obtain ⟨L, S, X, h1, h2, h3, h4⟩ := h
  exact ⟨L, S, X, by omega, by omega, by omega, h4⟩
theorem Mx.keeps {Z : Nat → Prop} {w w' : World} {m B : Nat} {V : Value × Value × Value} {T : Nat → Option Nat} {M : Nat → Nat} {rs ds : List Sp} {n : Nat} (h : Mx w m B V T M rs ds n) (hk : Keeps Z w w') (hn : ∀ j, Mine m B V T j → ¬ Z j) : Mx w' m B V T M rs ds n := by
  obtain ⟨L, S, X, h1, h2, h3, h4⟩ := h
  exact ⟨L, S, X, h1, h2, h3, h4.keeps hk hn⟩
theorem Mx.below {w w' : World} {m B : Nat} {V : Value × Value × Value} {T : Nat → Option Nat} {M : Nat → Nat} {rs ds : List Sp} {n : Nat} (h : Mx w m B V T M rs ds n) (hb : Below w.heap.size w w') : Mx w' m B V T M rs ds n :=
  h.keeps (Keeps.of_below (S := fun _ => False) hb) (fun _ _ h => h)
theorem Mx.lt {w : World} {m B : Nat} {V : Value × Value × Value} {T : Nat → Option Nat} {M : Nat → Nat} {rs ds : List Sp} {n : Nat} (h : Mx w m B V T M rs ds n) : m < w.heap.size := by
  obtain ⟨L, S, X, _, _, _, h4⟩ := h
  exact h4.lt
theorem Mx.mine_lt {w : World} {m B : Nat} {V : Value × Value × Value} {T : Nat → Option Nat} {M : Nat → Nat} {rs ds : List Sp} {n : Nat} (h : Mx w m B V T M rs ds n) {j : Nat} (hj : Mine m B V T j) : j < w.heap.size := by
  obtain ⟨L, S, X, _, _, _, h4⟩ := h
  exact h4.mine_lt hj
theorem Mac.sane {w : World} {m B : Nat} {V : Value × Value × Value} {T : Nat → Option Nat} {M : Nat → Nat} {rs ds : List Sp} {L S X : Nat} (h : Mac w m B V T M rs ds L S X) : Sane (rs ++ ds) := by
  obtain ⟨_, _, _, _, _, _, _, h6, _⟩ := h
  exact h6
theorem Mx.sane {w : World} {m B : Nat} {V : Value × Value × Value} {T : Nat → Option Nat} {M : Nat → Nat} {rs ds : List Sp} {n : Nat} (h : Mx w m B V T M rs ds n) : Sane (rs ++ ds) := by
  obtain ⟨L, S, X, _, _, _, h4⟩ := h
  exact h4.sane
/-- the Fault of an address: none, or why, at the address -/
def whyAt (why : Int) (v : Nat) : Nat := if why = 0 then 0 else v
set_option maxRecDepth 100000 in
set_option maxHeartbeats 4000000 in
theorem translate_any {w : World} {m B : Nat} {V : Value × Value × Value} {T : Nat → Option Nat} {M : Nat → Nat} {rs ds : List Sp} {n t v : Nat} {acc : Int} (h : Mx w m B V T M rs ds n) (ht : t ≤ 18446744073709551615) (hv : v ≤ 18446744073709551615) (hn : n ≤ 4611686018427387904) :
    Calls Tryz.prog 20 #[MemV m, .int .u64 (t : Int), .int .u64 (v : Int), .int .i64 acc] w fun e w' => e = .returned (.tuple #[.int .u64 ((adrF (rs ++ ds) M t v acc).1 : Int), FaultV (adrF (rs ++ ds) M t v acc).2 (whyAt (adrF (rs ++ ds) M t v acc).2 v : Int)]) ∧ Hid (Mx w' m B V T M rs ds (n + 1)) ∧ Hid (Keeps (fun j => j = m) w w') := by
  have HX : Hid (Mx w m B V T M rs ds n) := h
  have hml := h.lt
  obtain ⟨r, hr⟩ : ∃ r, r = adrF (rs ++ ds) M t v acc := ⟨_, rfl⟩
  have HZ : Hid (r.2 ≠ 0 → r.1 = 0) := by rw [hr]; exact adrF_zero
  have HA : Hid (Calls Tryz.prog 43 #[MemV m, .int .u64 (t : Int), .int .u64 (v : Int), .int .i64 acc] (w.alloc (Obj.cells #[.int .i64 0, .int .u64 0] 57)) fun e w' => e = .returned (.tuple #[.int .u64 (r.1 : Int), .int .i64 r.2]) ∧ Hid (Mx w' m B V T M rs ds (n + 1)) ∧ Hid (Keeps (fun j => j = m) (w.alloc (Obj.cells #[.int .i64 0, .int .u64 0] 57)) w')) := by
    obtain ⟨L, S, X, h1, h2, h3, h4⟩ := h
    refine (address_any (h4.below ((Below.refl _ _).alloc (Nat.le_refl _) _)) ht hv (by omega)).mono ?_
    rintro e w' ⟨r', b, rfl, ha, hm, hk⟩
    rw [addr_is ha, ← hr]
    exact ⟨rfl, ⟨L, S, up b X, by omega, by omega, by cases b <;> simp [up] <;> omega, hm⟩, hk⟩
  rw [← hr]
  unfold MemV at HA ⊢
  clear h hr
  obtain ⟨r1, r2⟩ := r
  simp only at HZ HA ⊢
  by_cases h0 : r2 = 0
  · subst h0
    go_enter Tryz.func20, Tryz.ntmps20
    go_wp2_with fail
    refine HA.out.mono ?_
    rintro e w1 ⟨rfl, HM1, HK1⟩
    have HX1 : Hid (BoxF w1 w.heap.size 0 0) := (BoxF.new w 0 0).keeps HK1.out (by omega)
    obtain ⟨x0, x1, f0, f1⟩ := HX1.out.cells
    clear HA
    go_wp2_with fail
    obtain ⟨d0, d1, _⟩ := (HX1.out.set 0 0).cells
    refine bodyPost_ret (v := .tuple #[.int .u64 (r1 : Int), .agg #[.int .i64 0, .int .u64 0]]) (by simp [results, Tryz.results20, go_sem, d0, d1]) rfl ?_
    have hk2 := Keeps.two w1 w.heap.size (.int .i64 0) (.int .u64 0)
    have hk1 : Keeps (fun j => j = m) w w1 := (Keeps.alloc (S := fun j => j = m) w _).trans HK1.out (fun _ _ e => e)
    exact ⟨rfl, HM1.out.keeps hk2 (fun j hj e => by have := HX.out.mine_lt hj; omega), hk1.trans hk2 (fun i hi e => absurd e (by omega))⟩
  · have h1 := HZ.out h0
    subst h1
    have HW : Hid (whyAt r2 v = v) := if_neg h0
    have h0e : (r2 == 0) = false := by simpa using h0
    go_enter Tryz.func20, Tryz.ntmps20
    go_wp2_with fail
    refine HA.out.mono ?_
    rintro e w1 ⟨rfl, HM1, HK1⟩
    have HX1 : Hid (BoxF w1 w.heap.size 0 0) := (BoxF.new w 0 0).keeps HK1.out (by omega)
    obtain ⟨x0, x1, f0, f1⟩ := HX1.out.cells
    clear HA
    go_wp2_with fail
    obtain ⟨d0, d1, _⟩ := (HX1.out.set r2 v).cells
    refine bodyPost_ret (v := .tuple #[.int .u64 0, .agg #[.int .i64 r2, .int .u64 (v : Int)]]) (by simp [results, Tryz.results20, go_sem, d0, d1]) rfl ?_
    have hk2 := Keeps.two w1 w.heap.size (.int .i64 r2) (.int .u64 (v : Int))
    have hk1 : Keeps (fun j => j = m) w w1 := (Keeps.alloc (S := fun j => j = m) w _).trans HK1.out (fun _ _ e => e)
    exact ⟨by rw [HW.out]; rfl, HM1.out.keeps hk2 (fun j hj e => by have := HX.out.mine_lt hj; omega), hk1.trans hk2 (fun i hi e => absurd e (by omega))⟩
end Go.Proofs.YtdkhhofgfbnmkaaGreat
/- reached over a machine. Own work. -/
namespace Go.Proofs.YtdkhhofgfbnmkaaGreat
open Go.RowKit Go.Maps Go.Proofs.YtdkhhofgfbnmkaaGreat.Sp Wk
/-- the i-th address of an access -/
def vv (v i : Nat) : Nat := (v + i) % 18446744073709551616
noncomputable def ad (LL : List Sp) (M : Nat → Nat) (t v : Nat) (acc : Int) (i : Nat) : Nat × Int := adrF LL M t (vv v i) acc
theorem find_first {α : Type} {f : Nat → Option α} {i k : Nat} {x : α} (h : ∀ j, j < i → f j = none) (hi : f i = some x) (hk : i < k) : (List.range k).findSome? f = some x := by
  induction k with
  | zero => omega
  | succ k ih =>
    rw [List.range_succ, List.findSome?_append]
    by_cases hik : i < k
    · rw [ih hik]; rfl
    · obtain rfl : i = k := by omega
      have : (List.range i).findSome? f = none := by
        rw [List.findSome?_eq_none_iff]
        intro j hj
        exact h j (by simpa using hj)
      rw [this]
      simp [hi]
theorem find_none {α : Type} {f : Nat → Option α} {k : Nat} (h : ∀ j, j < k → f j = none) : (List.range k).findSome? f = none := by
  rw [List.findSome?_eq_none_iff]
  intro j hj
  exact h j (by simpa using hj)
noncomputable def trBad (LL : List Sp) (M : Nat → Nat) (t v : Nat) (acc : Int) (k : Nat) : Option (Int × Nat) := (List.range k).findSome? fun i => if (ad LL M t v acc i).2 = 0 then none else some ((ad LL M t v acc i).2, vv v i)
open Classical in
noncomputable def offBad (LL : List Sp) (M : Nat → Nat) (t v : Nat) (acc : Int) (k : Nat) : Option (Int × Nat) := (List.range k).findSome? fun i => if On LL ((ad LL M t v acc i).1 : Int) then none else some (30, vv v i)
/-- why an access is refused, and where -/
noncomputable def reachF (LL : List Sp) (M : Nat → Nat) (t v : Nat) (acc : Int) (k : Nat) : Option (Int × Nat) := match trBad LL M t v acc k with | some x => some x | none => offBad LL M t v acc k
theorem reach_tr {LL : List Sp} {M : Nat → Nat} {t v : Nat} {acc : Int} {i k : Nat} (h : ∀ j, j < i → (ad LL M t v acc j).2 = 0) (hi : (ad LL M t v acc i).2 ≠ 0) (hk : i < k) : reachF LL M t v acc k = some ((ad LL M t v acc i).2, vv v i) := by
  have : trBad LL M t v acc k = some ((ad LL M t v acc i).2, vv v i) := find_first (fun j hj => if_pos (h j hj)) (if_neg hi) hk
  rw [reachF, this]
theorem reach_off {LL : List Sp} {M : Nat → Nat} {t v : Nat} {acc : Int} {i k : Nat} (h0 : ∀ j, j < k → (ad LL M t v acc j).2 = 0) (h : ∀ j, j < i → On LL ((ad LL M t v acc j).1 : Int)) (hi : ¬ On LL ((ad LL M t v acc i).1 : Int)) (hk : i < k) : reachF LL M t v acc k = some (30, vv v i) := by
  have : trBad LL M t v acc k = none := find_none (fun j hj => if_pos (h0 j hj))
  have h2 : offBad LL M t v acc k = some (30, vv v i) := find_first (fun j hj => if_pos (h j hj)) (if_neg hi) hk
  rw [reachF, this]
  exact h2
theorem reach_ok {LL : List Sp} {M : Nat → Nat} {t v : Nat} {acc : Int} {k : Nat} (h0 : ∀ j, j < k → (ad LL M t v acc j).2 = 0) (h : ∀ j, j < k → On LL ((ad LL M t v acc j).1 : Int)) : reachF LL M t v acc k = none := by
  have : trBad LL M t v acc k = none := find_none (fun j hj => if_pos (h0 j hj))
  have h2 : offBad LL M t v acc k = none := find_none (fun j hj => if_pos (h j hj))
  rw [reachF, this]
  exact h2
/-- a row of addresses -/
def RowA (w : World) (g : Nat) (L : List Nat) : Prop := w.heap[g]? = some (.cells (L.map fun z : Nat => Value.int .u64 (z : Int)).toArray 34 (0, 0))
theorem RowA.lt {w : World} {g : Nat} {L : List Nat} (h : RowA w g L) : g < w.heap.size := (Array.getElem?_eq_some_iff.1 h).1
theorem RowA.keeps {Z : Nat → Prop} {w w' : World} {g : Nat} {L : List Nat} (h : RowA w g L) (hk : Keeps Z w w') (hn : ¬ Z g) : RowA w' g L := (hk.block g h.lt hn).trans h
theorem RowA.below {w w' : World} {g : Nat} {L : List Nat} (h : RowA w g L) (hb : Below w.heap.size w w') : RowA w' g L := (hb.block g h.lt).trans h
theorem RowA.cell {w : World} {g : Nat} {L : List Nat} (h : RowA w g L) (j : Nat) (hj : j < L.length) : w.cell? ⟨g, j, none⟩ = some (.int .u64 (L[j] : Int)) := by
  rw [cell_of_row _ _ _ _ _ _ h]
  simp [hj]
theorem RowA.thawed {w : World} {g : Nat} {L : List Nat} (h : RowA w g L) (j : Nat) : w.frozen? ⟨g, j, none⟩ = false := by simp [World.frozen?, show w.heap[g]? = _ from h]
theorem RowA.set {w : World} {g : Nat} {L : List Nat} (h : RowA w g L) (j z : Nat) : RowA (w.setCell ⟨g, j, none⟩ (.int .u64 (z : Int))) g (L.set j z) := by
  have h0 : w.heap[g]? = some (.cells (L.map fun z : Nat => Value.int .u64 (z : Int)).toArray 34 (0, 0)) := h
  unfold RowA
  rw [List.map_set]
  simp [World.setCell, Array.getElem?_modify, h0]
theorem madeA {w : World} {base g n : Nat} (h : w.ownsRow base 34 1 (.slice (some ⟨g, 0, none⟩) n n) n (madeCells #[Value.int .u64 0] n).toList) : RowA w g (List.replicate n 0) := by
  rcases h.2 with ⟨hc, _⟩ | ⟨g', cap, cur, hv, _, hg, _, _, hs, ht⟩
  · cases hc
  · cases hv
    unfold RowA
    rw [hg]
    have e : cur.toList = List.replicate n (Value.int .u64 0) := by
      rw [List.take_of_length_le (by simp [hs])] at ht
      rw [ht]
      apply List.ext_getElem
      · simp [size_madeCells]
      · intro j h1 h2
        simp [madeCells, Nat.mod_one]
    have e2 : cur = (List.replicate n (Value.int .u64 0)).toArray := by rw [← e]
    rw [e2]
    simp
theorem info_u64a : (Tryz.prog.info? 34).map (fun i => (i.zero, i.size, i.bytes)) = some (some (.int .u64 0), 1, 8) := by kernel_rfl
/-- the first i addresses are there -/
noncomputable def upA (LL : List Sp) (M : Nat → Nat) (t v : Nat) (acc : Int) (k i : Nat) : List Nat := (List.range k).map fun j => if j < i then (ad LL M t v acc j).1 else 0
theorem upA_len (LL : List Sp) (M : Nat → Nat) (t v : Nat) (acc : Int) (k i : Nat) : (upA LL M t v acc k i).length = k := by simp [upA]
theorem upA_zero (LL : List Sp) (M : Nat → Nat) (t v : Nat) (acc : Int) (k : Nat) : upA LL M t v acc k 0 = List.replicate k 0 := by
  apply List.ext_getElem
  · simp [upA]
  · intro j h1 h2
    simp [upA]
theorem upA_step (LL : List Sp) (M : Nat → Nat) (t v : Nat) (acc : Int) (k i : Nat) : (upA LL M t v acc k i).set i (ad LL M t v acc i).1 = upA LL M t v acc k (i + 1) := by
  apply List.ext_getElem
  · simp [upA]
  · intro j h1 h2
    rw [List.getElem_set]
    by_cases e : i = j
    · subst e; simp [upA]
    · rw [if_neg e]
      simp only [upA, List.getElem_map, List.getElem_range]
      by_cases h : j < i
      · rw [if_pos h, if_pos (by omega)]
      · rw [if_neg h, if_neg (by omega)]
theorem upA_get (LL : List Sp) (M : Nat → Nat) (t v : Nat) (acc : Int) (k j : Nat) (hj : j < k) : (upA LL M t v acc k k)[j]'(by rw [upA_len]; exact hj) = (ad LL M t v acc j).1 := by simp [upA, hj]
/-- what reached answers -/
def ReachP (w : World) (LL : List Sp) (M : Nat → Nat) (t v : Nat) (acc : Int) (k : Nat) (e : Ending) (w' : World) : Prop :=
  (∃ why x, reachF LL M t v acc k = some (why, x) ∧ e = .returned (.tuple #[.slice none 0 0, FaultV why (x : Int)])) ∨
  (reachF LL M t v acc k = none ∧ (∀ j, j < k → (ad LL M t v acc j).2 = 0 ∧ On LL ((ad LL M t v acc j).1 : Int)) ∧ ∃ g, e = .returned (.tuple #[.slice (some ⟨g, 0, none⟩) k k, FaultV 0 0]) ∧ w.heap.size ≤ g ∧ RowA w' g (upA LL M t v acc k k))
set_option maxRecDepth 100000 in
set_option maxHeartbeats 1000000 in
theorem stray_any {v i : Nat} (w : World) (hi : i ≤ 8) : Calls Tryz.prog 50 #[.int .u64 (v : Int), .int .i64 (i : Int)] w fun e w' => e = .returned (FaultV 30 (vv v i : Int)) ∧ Below w.heap.size w w' := by
  have hw : IntKind.u64.wrap ((v : Int) + (i : Int)) = (vv v i : Int) := by rw [IntKind.wrap_u64, vv]; omega
  generalize vv v i = x at *
  have HX1 : Hid (BoxF (w.alloc (Obj.cells #[.int .i64 0, .int .u64 0] 57)) w.heap.size 0 0) := BoxF.new w 0 0
  go_enter Tryz.func50, Tryz.ntmps50
  go_wp2_with fail
  refine bodyPost_ret (v := .agg #[.int .i64 30, .int .u64 (x : Int)]) (by simp [results, Tryz.results50, go_sem]) rfl ?_
  exact ⟨rfl, (Below.refl _ _).alloc (Nat.le_refl _) _⟩
set_option maxRecDepth 100000 in
set_option maxHeartbeats 8000000 in
theorem reached_any {w : World} {m B : Nat} {V : Value × Value × Value} {T : Nat → Option Nat} {M : Nat → Nat} {rs ds : List Sp} {n t v k : Nat} {acc : Int} (h : Mx w m B V T M rs ds n) (ht : t ≤ 18446744073709551615) (hn : n ≤ 4611686018427380000) (hk : Wide k) :
    Calls Tryz.prog 49 #[MemV m, .int .u64 (t : Int), .int .u64 (v : Int), .int .i64 (k : Int), .int .i64 acc] w fun e w' => ReachP w (rs ++ ds) M t v acc k e w' ∧ Hid (Mx w' m B V T M rs ds (n + 16)) ∧ Hid (Keeps (fun j => j = m) w w') := by
  have HM : Hid (Mx w m B V T M rs ds n) := h
  have hml := h.lt
  have k1 : 1 ≤ k := by rcases hk with h | h | h | h <;> omega
  have k8 : k ≤ 8 := by rcases hk with h | h | h | h <;> omega
  have HTr : Hid (∀ W i, i < k → Mx W m B V T M rs ds (n + i) → Calls Tryz.prog 20 #[MemV m, .int .u64 (t : Int), .int .u64 (vv v i : Int), .int .i64 acc] W fun e w' => e = .returned (.tuple #[.int .u64 ((ad (rs ++ ds) M t v acc i).1 : Int), FaultV (ad (rs ++ ds) M t v acc i).2 (whyAt (ad (rs ++ ds) M t v acc i).2 (vv v i) : Int)]) ∧ Hid (Mx w' m B V T M rs ds (n + i + 1)) ∧ Hid (Keeps (fun j => j = m) W w')) := fun W i hi hW => translate_any hW ht (by unfold vv; omega) (by omega)
  have HPk : Hid (∀ W i, i < k → ∀ a : Nat, a ≤ 18446744073709551615 → Mx W m B V T M rs ds (n + k + i) → Calls Tryz.prog 140 #[.pointer (some ⟨m, 0, none⟩), .int .u64 (a : Int), .int .i64 1] W fun e w' => ∃ x b z, e = .returned (.tuple #[.int .u64 z, FaultV (if b then 30 else 0) x]) ∧ Hid (b = true ↔ ¬ On (rs ++ ds) (a : Int)) ∧ Hid (Mx w' m B V T M rs ds (n + k + i + 1)) ∧ Hid (Keeps (fun j => j = m) W w')) := fun W i hi a ha ⟨L, S, X, h1, h2, h3, h4⟩ => by
    refine (peek_any (n := 1) h4 ha (Or.inl rfl) (by omega)).mono ?_
    rintro e w' ⟨x, b, ho, rfl, hm, hk⟩
    refine ⟨x, b, _, rfl, ?_, ⟨L, S, up b X, by omega, by omega, by cases b <;> simp [up] <;> omega, hm⟩, hk⟩
    cases b with
    | true =>
      obtain ⟨i, hi, _, _, hn, _⟩ := ho.1 rfl
      obtain rfl : i = 0 := by omega
      exact ⟨fun _ => by simpa using hn, fun _ => rfl⟩
    | false =>
      have := (ho.2 rfl).2 0 (by omega)
      exact ⟨fun h => (by cases h), fun h => absurd (by simpa using this) h⟩
  have HAd : Hid (∀ i, (ad (rs ++ ds) M t v acc i).1 ≤ 18446744073709551615) := fun i => adrF_le _ _ _ _ _
  have hme : ∀ (w : World) (p : Option Addr), (method 319 28 (.pointer p) "Peek").run Tryz.prog w = .ok (140, .pointer p) w := fun _ _ => by kernel_rfl
  generalize rs ++ ds = LL at *
  obtain ⟨i, hi, hz0, hz1, hz2⟩ := info_parts info_u64a
  have HIf : Hid (Tryz.prog.info? 34 = some i ∧ i.zero = some (.int .u64 0) ∧ i.size = 1 ∧ i.bytes = 8) := ⟨hi, hz0, hz1, hz2⟩
  have HK : Hid (Wide k) := hk
  have HX0 : Hid (BoxF (w.alloc (Obj.cells #[.int .i64 0, .int .u64 0] 57)) w.heap.size 0 0) := BoxF.new w 0 0
  unfold MemV at HTr ⊢
  clear hi hz0 hz1 hz2 hk h
  go_enter Tryz.func49, Tryz.ntmps49
  go_upto_block 0 with fail
  go_cut [] (fun wx => wx = w.alloc (Obj.cells #[.int .i64 0, .int .u64 0] 57))
  case first =>
    rcases HK.out with rfl | rfl | rfl | rfl
    · go_wp2_with fail
      go_meet
      exact rfl
    · go_wp2_with fail
      go_meet
      exact rfl
    · go_wp2_with fail
      go_meet
      exact rfl
    · go_wp2_with fail
      go_meet
      exact rfl
  case rest =>
    have hcut := hcut.symm
    subst hcut
    go_wp2_with (at_make; refine wpList_make_full _ rfl _ _ 109 rfl w.heap.size 34 i (.int .u64 0) 1 Tryz.underlying109 HIf.out.1 HIf.out.2.1 HIf.out.2.2.1 _ _ _ _ k rfl rfl (by omega) (by omega) (by rw [HIf.out.2.2.2]; omega) (by simp only [maxLen]; omega) (by simp) ?_)
    intro w1 hown hgrow
    have HR1 : Hid (RowA w1 (w.heap.size + 1) (upA LL M t v acc k 0)) := by rw [upA_zero]; exact madeA hown
    have hb1 : Below (w.heap.size + 1) (w.alloc (Obj.cells #[.int .i64 0, .int .u64 0] 57)) w1 := (Below.refl _ _).grown hgrow (by simp) (by simp)
    have HX1 : Hid (BoxF w1 w.heap.size 0 0) := (hb1.block w.heap.size (Nat.lt_succ_self _)).trans HX0.out
    have hbw : Below w.heap.size w w1 := ((Below.refl _ _).alloc (Nat.le_refl _) _).trans (hb1.mono (Nat.le_succ _))
    have HM1 : Hid (Mx w1 m B V T M rs ds n) := HM.out.below hbw
    have HK1 : Hid (Keeps (fun j => j = m) w w1) := Keeps.of_below hbw
    clear hown hgrow hb1 hbw HX0 HIf
    go_wp2_with fail
    go_loopw [36] (fun iv wr => ∃ q : Nat, q ≤ k ∧ iv = .int .i64 (q : Int) ∧ Hid (RowA wr (w.heap.size + 1) (upA LL M t v acc k q)) ∧ Hid (BoxF wr w.heap.size 0 0) ∧ Hid (Mx wr m B V T M rs ds (n + q)) ∧ Hid (Keeps (fun j => j = m) w wr) ∧ Hid (∀ j, j < q → (ad LL M t v acc j).2 = 0)) (fun iv _ => k - (intOf iv).toNat)
    case atStart => exact ⟨0, Nat.zero_le _, rfl, HR1, HX1, HM1, HK1, fun j hj => absurd hj (Nat.not_lt_zero _)⟩
    case round =>
      clear HR1 HX1 HM1 HK1
      obtain ⟨q, hq, rfl, HR, HXr, HMr, HKr, HZ⟩ := hrel
      by_cases hlt : q < k
      · have HCl := Lib.hid (HTr.out wr q hlt HMr.out)
        have hwv : IntKind.u64.wrap ((v : Int) + (q : Int)) = (vv v q : Int) := by rw [IntKind.wrap_u64, vv]; omega
        have HUp : Hid ((upA LL M t v acc k q).set q (ad LL M t v acc q).1 = upA LL M t v acc k (q + 1)) := upA_step _ _ _ _ _ _ _
        have HBad : Hid ((ad LL M t v acc q).2 ≠ 0 → reachF LL M t v acc k = some ((ad LL M t v acc q).2, vv v q)) := fun h => reach_tr HZ.out h hlt
        have HGo : Hid ((ad LL M t v acc q).2 = 0 → ∀ j, j < q + 1 → (ad LL M t v acc j).2 = 0) := fun h j hj => by
          by_cases e : j = q
          · rw [e]; exact h
          · exact HZ.out j (by omega)
        generalize ad LL M t v acc q = r at *
        obtain ⟨r1, r2⟩ := r
        simp only at HCl HUp HBad HGo
        generalize hx : vv v q = x at *
        clear hx
        go_wp2_with fail
        refine HCl.out.mono ?_
        rintro e w2 ⟨rfl, HM2, HK2⟩
        have hm1 : m < w.heap.size := hml
        have HX2 : Hid (BoxF w2 w.heap.size 0 0) := HXr.out.keeps HK2.out (by omega)
        have HR2 : Hid (RowA w2 (w.heap.size + 1) (upA LL M t v acc k q)) := HR.out.keeps HK2.out (by omega)
        have HKw2 : Hid (Keeps (fun j => j = m) w w2) := HKr.out.trans HK2.out (fun _ _ e => e)
        have hlt2 := HR2.out.lt
        clear HCl HK2
        unfold FaultV
        by_cases h0 : r2 = 0
        · subst h0
          obtain ⟨c0, hc0⟩ : ∃ c0, (upA LL M t v acc k q)[q]'(by rw [upA_len]; exact hlt) = c0 := ⟨_, rfl⟩
          have y0 := (HR2.out.below ((Below.refl _ _).alloc (Nat.le_refl _) (Obj.cells #[.int .i64 0, .int .u64 (whyAt 0 x : Int)] 57))).cell q (by rw [upA_len]; exact hlt)
          have y1 := (HR2.out.below ((Below.refl _ _).alloc (Nat.le_refl _) (Obj.cells #[.int .i64 0, .int .u64 (whyAt 0 x : Int)] 57))).thawed q
          rw [hc0] at y0
          clear hc0
          have qi : (q : Int) < (k : Int) := by omega
          generalize (whyAt 0 x : Int) = wa at *
          go_wp2_with fail
          go_roundw
          case rel =>
            have hk3 : Keeps (fun j => j = w.heap.size + 1) w2 (w2.setCell ⟨w.heap.size + 1, q, none⟩ (.int .u64 (r1 : Int))) := Keeps.setCell _ _ _ _
            have hb4 : Below (w2.setCell ⟨w.heap.size + 1, q, none⟩ (.int .u64 (r1 : Int))).heap.size (w2.setCell ⟨w.heap.size + 1, q, none⟩ (.int .u64 (r1 : Int))) ((w2.setCell ⟨w.heap.size + 1, q, none⟩ (.int .u64 (r1 : Int))).alloc (Obj.cells #[.int .i64 0, .int .u64 wa] 57)) := (Below.refl _ _).alloc (Nat.le_refl _) _
            have t1 := (HX2.out.keeps hk3 (show ¬ (w.heap.size = w.heap.size + 1) by omega)).below hb4
            have t2 := (HKw2.out.trans hk3 (fun i hi e => absurd (show i = w.heap.size + 1 from e) (Nat.ne_of_lt (Nat.lt_succ_of_lt hi)))).trans (Keeps.of_below (S := fun _ => False) hb4) (fun _ _ h => h.elim)
            refine ⟨q + 1, by omega, by go_num, ?_, t1, (HM2.out.keeps hk3 (fun j hj e => ?_)).below hb4, t2, HGo.out (by trivial)⟩
            · have := (HR2.out.set q r1).below hb4
              rw [HUp.out] at this
              exact this
            · have := HM.out.mine_lt hj
              have e : j = w.heap.size + 1 := e
              omega
          case measure => simp [intOf]; omega
        · have h0e : (r2 == 0) = false := by simpa using h0
          have HRc := HBad.out h0
          have hwx : whyAt r2 x = x := if_neg h0
          rw [hwx]
          obtain ⟨W3, hW3⟩ : ∃ W3, w2.alloc (Obj.cells #[.int .i64 r2, .int .u64 (x : Int)] 57) = W3 := ⟨_, rfl⟩
          have HF3 : Hid (BoxF W3 w2.heap.size r2 x) := hW3 ▸ BoxF.new w2 r2 x
          have HX3 : Hid (BoxF W3 w.heap.size 0 0) := hW3 ▸ HX2.out.below ((Below.refl _ _).alloc (Nat.le_refl _) _)
          have HB3 : Hid (Below w2.heap.size w2 W3) := hW3 ▸ (Below.refl _ _).alloc (Nat.le_refl _) _
          have hne : w.heap.size ≠ w2.heap.size := by omega
          obtain ⟨x0, x1, f0, f1⟩ := HX3.out.cells
          obtain ⟨y0, y1, _, _⟩ := HF3.out.cells
          go_wp2_with fail
          clear hW3
          go_region_held3 (fun w' => w'.cell? ⟨w2.heap.size, 0, none⟩ = some (.int .i64 r2) ∧ w'.cell? ⟨w2.heap.size, 1, none⟩ = some (.int .u64 (x : Int))) (go_keep) (fail)
          go_wp2_with fail
          obtain ⟨d0, d1, _⟩ := BoxF.cells (w := ((W3.setCell ⟨w.heap.size, 0, none⟩ (.int .i64 r2)).setCell ⟨w.heap.size, 1, none⟩ (.int .u64 (x : Int))).drew) (HX3.out.set r2 x)
          refine bodyPost_ret (v := .tuple #[.slice none 0 0, .agg #[.int .i64 r2, .int .u64 (x : Int)]]) (by simp [results, Tryz.results49, go_sem, d0, d1]) rfl ?_
          have hk2 : Keeps (fun j => j = w.heap.size) W3 (((W3.setCell ⟨w.heap.size, 0, none⟩ (.int .i64 r2)).setCell ⟨w.heap.size, 1, none⟩ (.int .u64 (x : Int))).drew) := (Keeps.two W3 w.heap.size (.int .i64 r2) (.int .u64 (x : Int))).drew
          exact ⟨.inl ⟨r2, x, HRc, rfl⟩, ((HM2.out.mono (by omega)).below HB3.out).keeps hk2 (fun j hj e => by have := HM.out.mine_lt hj; omega), (HKw2.out.trans (Keeps.of_below (S := fun _ => False) HB3.out) (fun _ _ h => h.elim)).trans hk2 (fun i hi e => absurd e (by omega))⟩
      · obtain rfl : q = k := by omega
        obtain ⟨w2, hw2⟩ : ∃ w2, w2 = wr := ⟨_, rfl⟩
        subst hw2
        clear HTr hlt hq
        go_wp2_with fail
        go_loopw [61] (fun iv wr => ∃ p : Nat, p ≤ q ∧ iv = .int .i64 (p : Int) ∧ Hid (RowA wr (w.heap.size + 1) (upA LL M t v acc q q)) ∧ Hid (BoxF wr w.heap.size 0 0) ∧ Hid (Mx wr m B V T M rs ds (n + q + p)) ∧ Hid (Keeps (fun j => j = m) w wr) ∧ Hid (∀ j, j < p → On LL ((ad LL M t v acc j).1 : Int))) (fun iv _ => q - (intOf iv).toNat)
        case atStart => exact ⟨0, Nat.zero_le _, rfl, HR, HXr, HMr, HKr, fun j hj => absurd hj (Nat.not_lt_zero _)⟩
        case round =>
          clear HR HXr HMr HKr
          obtain ⟨p, hp, rfl, HR, HXr, HMr, HKr, HO⟩ := hrel
          by_cases hlt : p < q
          · have y0 := HR.out.cell p (by rw [upA_len]; exact hlt)
            rw [upA_get _ _ _ _ _ _ _ hlt] at y0
            have HCl := Lib.hid (HPk.out wr p hlt (ad LL M t v acc p).1 (HAd.out p) HMr.out)
            have HOff : Hid (¬ On LL ((ad LL M t v acc p).1 : Int) → reachF LL M t v acc q = some (30, vv v p)) := fun h => reach_off HZ.out HO.out h hlt
            have HGo : Hid (On LL ((ad LL M t v acc p).1 : Int) → ∀ j, j < p + 1 → On LL ((ad LL M t v acc j).1 : Int)) := fun h j hj => by
              by_cases e : j = p
              · rw [e]; exact h
              · exact HO.out j (by omega)
            generalize (ad LL M t v acc p).1 = r1 at *
            have qi : (p : Int) < (q : Int) := by omega
            go_wp2_with fail
            refine HCl.out.mono ?_
            rintro e w3 ⟨x, b, z, rfl, HBo, HM3, HK3⟩
            have hm1 : m < w.heap.size := hml
            have HX3 : Hid (BoxF w3 w.heap.size 0 0) := HXr.out.keeps HK3.out (by omega)
            have HR3 : Hid (RowA w3 (w.heap.size + 1) (upA LL M t v acc q q)) := HR.out.keeps HK3.out (by omega)
            have HKw3 : Hid (Keeps (fun j => j = m) w w3) := HKr.out.trans HK3.out (fun _ _ e => e)
            have hlt3 := HR3.out.lt
            clear HCl HK3 y0
            unfold FaultV
            cases b with
            | false =>
              have hon : On LL (r1 : Int) := by
                by_cases h : On LL (r1 : Int)
                · exact h
                · have := HBo.out.2 h; cases this
              have HGo2 := Lib.hid (HGo.out hon)
              simp only [Bool.false_eq_true, if_false]
              have HB4 : Hid (Below w3.heap.size w3 (w3.alloc (Obj.cells #[.int .i64 0, .int .u64 x] 57))) := (Below.refl _ _).alloc (Nat.le_refl _) _
              clear hon HGo HOff HBo
              go_wp2_with fail
              go_roundw
              case rel => exact ⟨p + 1, by omega, by go_num, HR3.out.below HB4.out, HX3.out.below HB4.out, HM3.out.below HB4.out, HKw3.out.trans (Keeps.of_below (S := fun _ => False) HB4.out) (fun _ _ h => h.elim), HGo2⟩
              case measure => simp [intOf]; omega
            | true =>
              have HRc := HOff.out (HBo.out.1 rfl)
              simp only [if_true]
              have HB4 : Hid (Below w3.heap.size w3 (w3.alloc (Obj.cells #[.int .i64 30, .int .u64 x] 57))) := (Below.refl _ _).alloc (Nat.le_refl _) _
              have HSt := Lib.hid (stray_any (v := v) (i := p) (w3.alloc (Obj.cells #[.int .i64 30, .int .u64 x] 57)) (by omega))
              clear HGo HOff HBo
              go_wp2_with fail
              refine HSt.out.mono ?_
              rintro e w5 ⟨rfl, hb5⟩
              have HB5 : Hid (Below w3.heap.size w3 w5) := HB4.out.trans (hb5.mono HB4.out.size)
              have HX5 : Hid (BoxF w5 w.heap.size 0 0) := HX3.out.below HB5.out
              obtain ⟨x0, x1, f0, f1⟩ := HX5.out.cells
              clear hb5 HSt
              unfold FaultV
              generalize vv v p = y at *
              go_wp2_with fail
              obtain ⟨d0, d1, _⟩ := (HX5.out.set 30 y).cells
              refine bodyPost_ret (v := .tuple #[.slice none 0 0, .agg #[.int .i64 30, .int .u64 (y : Int)]]) (by simp [results, Tryz.results49, go_sem, d0, d1]) rfl ?_
              have hk2 := Keeps.two w5 w.heap.size (.int .i64 30) (.int .u64 (y : Int))
              exact ⟨.inl ⟨30, y, HRc, rfl⟩, ((HM3.out.mono (by omega)).below HB5.out).keeps hk2 (fun j hj e => by have := HM.out.mine_lt hj; omega), (HKw3.out.trans (Keeps.of_below (S := fun _ => False) HB5.out) (fun _ _ h => h.elim)).trans hk2 (fun i hi e => absurd e (by omega))⟩
          · obtain rfl : p = q := by omega
            have HOk : Hid (reachF LL M t v acc p = none) := reach_ok HZ.out HO.out
            obtain ⟨x0, x1, f0, f1⟩ := HXr.out.cells
            go_wp2_with fail
            obtain ⟨d0, d1, _⟩ := (HXr.out.set 0 0).cells
            refine bodyPost_ret (v := .tuple #[.slice (some ⟨w.heap.size + 1, 0, none⟩) p p, .agg #[.int .i64 0, .int .u64 0]]) (by simp [results, Tryz.results49, go_sem, d0, d1]) rfl ?_
            have hk2 := Keeps.two wr w.heap.size (.int .i64 0) (.int .u64 0)
            exact ⟨.inr ⟨HOk.out, fun j hj => ⟨HZ.out j hj, HO.out j hj⟩, w.heap.size + 1, rfl, by omega, HR.out.keeps hk2 (by omega)⟩, (HMr.out.mono (by omega)).keeps hk2 (fun j hj e => by have := HM.out.mine_lt hj; omega), HKr.out.trans hk2 (fun i hi e => absurd e (by omega))⟩
end Go.Proofs.YtdkhhofgfbnmkaaGreat
