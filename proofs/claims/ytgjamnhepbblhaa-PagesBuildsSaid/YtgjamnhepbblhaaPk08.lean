import Derived.Test.YtgjamnhepbblhaaPk07
/- Pages: end, alone of any row. Own work. -/
namespace Go.Proofs.Ytgjamnhepbblhaa
open Go.RowKit Wk
set_option linter.unusedVariables false
theorem LfAt.new' (w : World) (x : L6) : LfAt (w.alloc (.cells #[.int .u64 (x.v : Int), .int .u64 (x.p : Int), .int .i64 x.n, .bool x.big, .bool x.wr, .bool x.ex] 34)) w.heap.size x := heap_alloc_new w _
theorem lf_below' (w : World) (x : L6) : Below w.heap.size w (w.alloc (.cells #[.int .u64 (x.v : Int), .int .u64 (x.p : Int), .int .i64 x.n, .bool x.big, .bool x.wr, .bool x.ex] 34)) := (Below.refl _ _).alloc (Nat.le_refl _) _
/-- a row's cells -/
def D6 (w : World) (X : Nat) (v p : Nat) (n : Int) (b wr ex : Bool) : Prop := w.cell? ⟨X, 0, none⟩ = some (.int .u64 (v : Int)) ∧ w.cell? ⟨X, 1, none⟩ = some (.int .u64 (p : Int)) ∧ w.cell? ⟨X, 2, none⟩ = some (.int .i64 n) ∧ w.cell? ⟨X, 3, none⟩ = some (.bool b) ∧ w.cell? ⟨X, 4, none⟩ = some (.bool wr) ∧ w.cell? ⟨X, 5, none⟩ = some (.bool ex)
theorem unit_D {w : World} {X v p : Nat} {n : Int} {b wr ex : Bool} (h : LfAt w X ⟨v, p, n, b, wr, ex⟩) {w0 : World} (hb : Below w0.heap.size w0 w) {u : Nat} (hu : unitF ⟨v, p, n, b, wr, ex⟩ = u) : Calls Try.prog 46 #[.agg #[.int .u64 (v : Int), .int .u64 (p : Int), .int .i64 n, .bool b, .bool wr, .bool ex]] w fun e w' => e = .returned (.int .u64 (u : Int)) ∧ D6 w' X v p n b wr ex ∧ Hid (LfAt w' X ⟨v, p, n, b, wr, ex⟩) ∧ Hid (Below w0.heap.size w0 w') :=
  (unit_any ⟨v, p, n, b, wr, ex⟩ w).mono fun _ _ ⟨e, k⟩ => ⟨by rw [e, hu], (h.below k).cells, h.below k, hb.trans (k.mono hb.size)⟩
theorem size_D {w : World} {X v p m : Nat} {b wr ex : Bool} (h : LfAt w X ⟨v, p, (m : Int), b, wr, ex⟩) (hs : m * 4096 ≤ 18446744073709551615) {w0 : World} (hb : Below w0.heap.size w0 w) : Calls Try.prog 45 #[.agg #[.int .u64 (v : Int), .int .u64 (p : Int), .int .i64 (m : Int), .bool b, .bool wr, .bool ex]] w fun e w' => e = .returned (.int .u64 ((m * 4096 : Nat) : Int)) ∧ D6 w' X v p (m : Int) b wr ex ∧ Hid (LfAt w' X ⟨v, p, (m : Int), b, wr, ex⟩) ∧ Hid (Below w0.heap.size w0 w') :=
  (size_any (x := ⟨v, p, (m : Int), b, wr, ex⟩) (m := m) rfl hs w).mono fun _ _ ⟨e, k⟩ => ⟨e, (h.below k).cells, h.below k, hb.trans (k.mono hb.size)⟩
set_option maxRecDepth 100000 in
set_option maxHeartbeats 4000000 in
theorem end_any {v p m : Nat} {b wr ex : Bool} (hs : v + m * 4096 ≤ 18446744073709551615) (w : World) : Calls Try.prog 39 #[V6 ⟨v, p, (m : Int), b, wr, ex⟩] w fun e w' => e = .returned (.int .u64 ((v + m * 4096 : Nat) : Int)) ∧ Below w.heap.size w w' := by
  have HL := Lib.hid (LfAt.new' w ⟨v, p, (m : Int), b, wr, ex⟩)
  have HB := Lib.hid (lf_below' w ⟨v, p, (m : Int), b, wr, ex⟩)
  unfold V6
  simp only at HL HB ⊢
  have hw : IntKind.u64.wrap ((v : Int) + ((m * 4096 : Nat) : Int)) = ((v + m * 4096 : Nat) : Int) := by rw [IntKind.wrap_u64]; omega
  have hs2 : m * 4096 ≤ 18446744073709551615 := by omega
  obtain ⟨s, hsz⟩ : ∃ s, m * 4096 = s := ⟨_, rfl⟩
  have HSz := Lib.hid fun (W : World) (h : LfAt W w.heap.size ⟨v, p, (m : Int), b, wr, ex⟩) (hb : Below w.heap.size w W) => size_D h hs2 hb
  rw [hsz] at HSz hw ⊢
  clear hs hs2 hsz
  go_enter Try.func39, Try.ntmps39
  go_wp2_with fail
  obtain ⟨c0, c1, c2, c3, c4, c5⟩ := HL.out.cells
  simp only at c0 c1 c2 c3 c4 c5
  generalize (w.alloc (.cells #[.int .u64 (v : Int), .int .u64 (p : Int), .int .i64 (m : Int), .bool b, .bool wr, .bool ex] 34)) = w1 at *
  go_region_held3 (fun w' => w'.cell? ⟨w.heap.size, 0, none⟩ = some (.int .u64 (v : Int)) ∧ w'.cell? ⟨w.heap.size, 1, none⟩ = some (.int .u64 (p : Int)) ∧ w'.cell? ⟨w.heap.size, 2, none⟩ = some (.int .i64 (m : Int)) ∧ w'.cell? ⟨w.heap.size, 3, none⟩ = some (.bool b) ∧ w'.cell? ⟨w.heap.size, 4, none⟩ = some (.bool wr) ∧ w'.cell? ⟨w.heap.size, 5, none⟩ = some (.bool ex)) (go_keep) (first | (go_at_call 45; refine (HSz.out w1.drew HL.out HB.out.drew).mono ?_; rintro e w9 ⟨rfl, ⟨d0, d1, d2, d3, d4, d5⟩, HL9, HB9⟩))
  all_goals
    go_wp2_with fail
    go_ret
    exact ⟨rfl, HB9.out⟩
/-- what alone answers -/
def aloneF (x : L6) : Int :=
  if x.n < 1 ∨ (x.big = true ∧ x.n % 512 ≠ 0) then 32
  else if x.v % unitF x ≠ 0 ∨ x.p % unitF x ≠ 0 then 33
  else if winB x.v x.n.toNat 549755813888 = false then 40
  else if winB x.p x.n.toNat 4294967296 = false then 34
  else 0
set_option maxRecDepth 100000 in
set_option maxHeartbeats 4000000 in
theorem alone_false {v p m : Nat} {wr ex : Bool} (hv : v ≤ 18446744073709551615) (hp : p ≤ 18446744073709551615) (hm : m ≤ 9223372036854775807) (h1 : ¬ ((m : Int) < 1)) (w : World) : Calls Try.prog 38 #[V6 ⟨v, p, (m : Int), false, wr, ex⟩] w fun e w' => e = .returned (.int .i64 (if v % 4096 ≠ 0 ∨ p % 4096 ≠ 0 then 33 else if winB v m 549755813888 = false then 40 else if winB p m 4294967296 = false then 34 else 0)) ∧ Below w.heap.size w w' := by
  have HL := Lib.hid (LfAt.new' w ⟨v, p, (m : Int), false, wr, ex⟩)
  have HB := Lib.hid (lf_below' w ⟨v, p, (m : Int), false, wr, ex⟩)
  have HU := Lib.hid fun (W : World) (h : LfAt W w.heap.size ⟨v, p, (m : Int), false, wr, ex⟩) (hb : Below w.heap.size w W) => unit_D h hb (u := 4096) rfl
  have HW1 := Lib.hid fun (W : World) => pwithin_any (a := v) (p := m) (bound := 549755813888) hv hm (by omega) W
  have HW2 := Lib.hid fun (W : World) => pwithin_any (a := p) (p := m) (bound := 4294967296) hp hm (by omega) W
  unfold V6
  simp only at HL HB ⊢
  have d1 : decide ((m : Int) < 1) = false := decide_eq_false h1
  obtain ⟨t1, ht1⟩ : ∃ t, winB v m 549755813888 = t := ⟨_, rfl⟩
  obtain ⟨t2, ht2⟩ : ∃ t, winB p m 4294967296 = t := ⟨_, rfl⟩
  rw [ht1] at HW1 ⊢
  rw [ht2] at HW2 ⊢
  clear h1 hv hp hm ht1 ht2
  by_cases hv0 : v % 4096 ≠ 0
  · rw [if_pos (Or.inl hv0)]
    have i1 : ¬ ((v : Int).tmod 4096 = 0) := by rw [Int.tmod_eq_emod_of_nonneg (by omega)]; omega
    have i2 : ((v : Int).tmod 4096 != 0) = true := bne_iff_ne.2 i1
    clear hv0
    go_enter Try.func38, Try.ntmps38
    go_wp2_with fail
    obtain ⟨c0, c1, c2, c3, c4, c5⟩ := HL.out.cells
    simp only at c0 c1 c2 c3 c4 c5
    generalize (w.alloc (.cells #[.int .u64 (v : Int), .int .u64 (p : Int), .int .i64 (m : Int), .bool false, .bool wr, .bool ex] 34)) = w1 at *
    first | (go_region_with (first | (go_at_call 46; refine (HU.out w1.drew HL.out HB.out.drew).mono ?_; rintro e w9 ⟨rfl, ⟨d0, d1, d2, d3, d4, d5⟩, HL9, HB9⟩))) | fail
    all_goals
      go_wp2_with fail
      go_ret
      exact ⟨rfl, HB9.out⟩
  · have i1 : (v : Int).tmod 4096 = 0 := by rw [Int.tmod_eq_emod_of_nonneg (by omega)]; omega
    have i2 : ((v : Int).tmod 4096 != 0) = false := by rw [i1]; rfl
    by_cases hp0 : p % 4096 ≠ 0
    · rw [if_pos (Or.inr hp0)]
      have j1 : ¬ ((p : Int).tmod 4096 = 0) := by rw [Int.tmod_eq_emod_of_nonneg (by omega)]; omega
      have j2 : ((p : Int).tmod 4096 != 0) = true := bne_iff_ne.2 j1
      clear hv0 hp0
      go_enter Try.func38, Try.ntmps38
      go_wp2_with fail
      obtain ⟨c0, c1, c2, c3, c4, c5⟩ := HL.out.cells
      simp only at c0 c1 c2 c3 c4 c5
      generalize (w.alloc (.cells #[.int .u64 (v : Int), .int .u64 (p : Int), .int .i64 (m : Int), .bool false, .bool wr, .bool ex] 34)) = w1 at *
      go_region_held3 (fun w' => w'.cell? ⟨w.heap.size, 0, none⟩ = some (.int .u64 (v : Int)) ∧ w'.cell? ⟨w.heap.size, 1, none⟩ = some (.int .u64 (p : Int)) ∧ w'.cell? ⟨w.heap.size, 2, none⟩ = some (.int .i64 (m : Int)) ∧ w'.cell? ⟨w.heap.size, 3, none⟩ = some (.bool false) ∧ w'.cell? ⟨w.heap.size, 4, none⟩ = some (.bool wr) ∧ w'.cell? ⟨w.heap.size, 5, none⟩ = some (.bool ex)) (go_keep) (first | (go_at_call 46; first | (refine (HU.out _ HL9.out HB9.out).mono ?_; rintro e w8 ⟨rfl, ⟨f0, f1, f2, f3, f4, f5⟩, HL8, HB8⟩) | (refine (HU.out w1.drew HL.out HB.out.drew).mono ?_; rintro e w9 ⟨rfl, ⟨d0, d1, d2, d3, d4, d5⟩, HL9, HB9⟩)))
      all_goals
        go_wp2_with fail
        go_ret
        exact ⟨rfl, HB8.out⟩
    · rw [if_neg (fun o => o.elim hv0 hp0)]
      have j1 : (p : Int).tmod 4096 = 0 := by rw [Int.tmod_eq_emod_of_nonneg (by omega)]; omega
      have j2 : ((p : Int).tmod 4096 != 0) = false := by rw [j1]; rfl
      clear hv0 hp0
      go_enter Try.func38, Try.ntmps38
      go_wp2_with fail
      obtain ⟨c0, c1, c2, c3, c4, c5⟩ := HL.out.cells
      simp only at c0 c1 c2 c3 c4 c5
      generalize (w.alloc (.cells #[.int .u64 (v : Int), .int .u64 (p : Int), .int .i64 (m : Int), .bool false, .bool wr, .bool ex] 34)) = w1 at *
      go_region_held3 (fun w' => w'.cell? ⟨w.heap.size, 0, none⟩ = some (.int .u64 (v : Int)) ∧ w'.cell? ⟨w.heap.size, 1, none⟩ = some (.int .u64 (p : Int)) ∧ w'.cell? ⟨w.heap.size, 2, none⟩ = some (.int .i64 (m : Int)) ∧ w'.cell? ⟨w.heap.size, 3, none⟩ = some (.bool false) ∧ w'.cell? ⟨w.heap.size, 4, none⟩ = some (.bool wr) ∧ w'.cell? ⟨w.heap.size, 5, none⟩ = some (.bool ex)) (go_keep) (first | (go_at_call 46; first | (refine (HU.out _ HL9.out HB9.out).mono ?_; rintro e w8 ⟨rfl, ⟨f0, f1, f2, f3, f4, f5⟩, HL8, HB8⟩) | (refine (HU.out w1.drew HL.out HB.out.drew).mono ?_; rintro e w9 ⟨rfl, ⟨d0, d1, d2, d3, d4, d5⟩, HL9, HB9⟩)))
      all_goals
        go_wp2_with fail
        refine (HW1.out _).mono ?_
        rintro e w7 ⟨rfl, hw7⟩
        subst hw7
        cases t1 with
        | false =>
          go_wp2_with fail
          go_ret
          exact ⟨rfl, HB8.out⟩
        | true =>
          go_wp2_with fail
          refine (HW2.out _).mono ?_
          rintro e w6 ⟨rfl, hw6⟩
          subst hw6
          cases t2 with
          | false =>
            go_wp2_with fail
            go_ret
            exact ⟨rfl, HB8.out⟩
          | true =>
            go_wp2_with fail
            go_ret
            exact ⟨rfl, HB8.out⟩
set_option maxRecDepth 100000 in
set_option maxHeartbeats 4000000 in
theorem alone_true {v p m : Nat} {wr ex : Bool} (hv : v ≤ 18446744073709551615) (hp : p ≤ 18446744073709551615) (hm : m ≤ 9223372036854775807) (h1 : ¬ ((m : Int) < 1)) (h2 : m % 512 = 0) (w : World) : Calls Try.prog 38 #[V6 ⟨v, p, (m : Int), true, wr, ex⟩] w fun e w' => e = .returned (.int .i64 (if v % 2097152 ≠ 0 ∨ p % 2097152 ≠ 0 then 33 else if winB v m 549755813888 = false then 40 else if winB p m 4294967296 = false then 34 else 0)) ∧ Below w.heap.size w w' := by
  have HL := Lib.hid (LfAt.new' w ⟨v, p, (m : Int), true, wr, ex⟩)
  have HB := Lib.hid (lf_below' w ⟨v, p, (m : Int), true, wr, ex⟩)
  have HU := Lib.hid fun (W : World) (h : LfAt W w.heap.size ⟨v, p, (m : Int), true, wr, ex⟩) (hb : Below w.heap.size w W) => unit_D h hb (u := 2097152) rfl
  have HW1 := Lib.hid fun (W : World) => pwithin_any (a := v) (p := m) (bound := 549755813888) hv hm (by omega) W
  have HW2 := Lib.hid fun (W : World) => pwithin_any (a := p) (p := m) (bound := 4294967296) hp hm (by omega) W
  unfold V6
  simp only at HL HB ⊢
  have d1 : decide ((m : Int) < 1) = false := decide_eq_false h1
  have d2 : (m : Int) % 512 = 0 := by omega
  have d3 : ((m : Int) % 512 != 0) = false := by rw [d2]; rfl
  clear h2
  obtain ⟨t1, ht1⟩ : ∃ t, winB v m 549755813888 = t := ⟨_, rfl⟩
  obtain ⟨t2, ht2⟩ : ∃ t, winB p m 4294967296 = t := ⟨_, rfl⟩
  rw [ht1] at HW1 ⊢
  rw [ht2] at HW2 ⊢
  clear h1 hv hp hm ht1 ht2
  by_cases hv0 : v % 2097152 ≠ 0
  · rw [if_pos (Or.inl hv0)]
    have i1 : ¬ ((v : Int).tmod 2097152 = 0) := by rw [Int.tmod_eq_emod_of_nonneg (by omega)]; omega
    have i2 : ((v : Int).tmod 2097152 != 0) = true := bne_iff_ne.2 i1
    clear hv0
    go_enter Try.func38, Try.ntmps38
    go_wp2_with fail
    obtain ⟨c0, c1, c2, c3, c4, c5⟩ := HL.out.cells
    simp only at c0 c1 c2 c3 c4 c5
    generalize (w.alloc (.cells #[.int .u64 (v : Int), .int .u64 (p : Int), .int .i64 (m : Int), .bool true, .bool wr, .bool ex] 34)) = w1 at *
    first | (go_region_with (first | (go_at_call 46; refine (HU.out w1.drew HL.out HB.out.drew).mono ?_; rintro e w9 ⟨rfl, ⟨d0, d1, d2, d3, d4, d5⟩, HL9, HB9⟩))) | fail
    all_goals
      go_wp2_with fail
      go_ret
      exact ⟨rfl, HB9.out⟩
  · have i1 : (v : Int).tmod 2097152 = 0 := by rw [Int.tmod_eq_emod_of_nonneg (by omega)]; omega
    have i2 : ((v : Int).tmod 2097152 != 0) = false := by rw [i1]; rfl
    by_cases hp0 : p % 2097152 ≠ 0
    · rw [if_pos (Or.inr hp0)]
      have j1 : ¬ ((p : Int).tmod 2097152 = 0) := by rw [Int.tmod_eq_emod_of_nonneg (by omega)]; omega
      have j2 : ((p : Int).tmod 2097152 != 0) = true := bne_iff_ne.2 j1
      clear hv0 hp0
      go_enter Try.func38, Try.ntmps38
      go_wp2_with fail
      obtain ⟨c0, c1, c2, c3, c4, c5⟩ := HL.out.cells
      simp only at c0 c1 c2 c3 c4 c5
      generalize (w.alloc (.cells #[.int .u64 (v : Int), .int .u64 (p : Int), .int .i64 (m : Int), .bool true, .bool wr, .bool ex] 34)) = w1 at *
      go_region_held3 (fun w' => w'.cell? ⟨w.heap.size, 0, none⟩ = some (.int .u64 (v : Int)) ∧ w'.cell? ⟨w.heap.size, 1, none⟩ = some (.int .u64 (p : Int)) ∧ w'.cell? ⟨w.heap.size, 2, none⟩ = some (.int .i64 (m : Int)) ∧ w'.cell? ⟨w.heap.size, 3, none⟩ = some (.bool true) ∧ w'.cell? ⟨w.heap.size, 4, none⟩ = some (.bool wr) ∧ w'.cell? ⟨w.heap.size, 5, none⟩ = some (.bool ex)) (go_keep) (first | (go_at_call 46; first | (refine (HU.out _ HL9.out HB9.out).mono ?_; rintro e w8 ⟨rfl, ⟨f0, f1, f2, f3, f4, f5⟩, HL8, HB8⟩) | (refine (HU.out w1.drew HL.out HB.out.drew).mono ?_; rintro e w9 ⟨rfl, ⟨d0, d1, d2, d3, d4, d5⟩, HL9, HB9⟩)))
      all_goals
        go_wp2_with fail
        go_ret
        exact ⟨rfl, HB8.out⟩
    · rw [if_neg (fun o => o.elim hv0 hp0)]
      have j1 : (p : Int).tmod 2097152 = 0 := by rw [Int.tmod_eq_emod_of_nonneg (by omega)]; omega
      have j2 : ((p : Int).tmod 2097152 != 0) = false := by rw [j1]; rfl
      clear hv0 hp0
      go_enter Try.func38, Try.ntmps38
      go_wp2_with fail
      obtain ⟨c0, c1, c2, c3, c4, c5⟩ := HL.out.cells
      simp only at c0 c1 c2 c3 c4 c5
      generalize (w.alloc (.cells #[.int .u64 (v : Int), .int .u64 (p : Int), .int .i64 (m : Int), .bool true, .bool wr, .bool ex] 34)) = w1 at *
      go_region_held3 (fun w' => w'.cell? ⟨w.heap.size, 0, none⟩ = some (.int .u64 (v : Int)) ∧ w'.cell? ⟨w.heap.size, 1, none⟩ = some (.int .u64 (p : Int)) ∧ w'.cell? ⟨w.heap.size, 2, none⟩ = some (.int .i64 (m : Int)) ∧ w'.cell? ⟨w.heap.size, 3, none⟩ = some (.bool true) ∧ w'.cell? ⟨w.heap.size, 4, none⟩ = some (.bool wr) ∧ w'.cell? ⟨w.heap.size, 5, none⟩ = some (.bool ex)) (go_keep) (first | (go_at_call 46; first | (refine (HU.out _ HL9.out HB9.out).mono ?_; rintro e w8 ⟨rfl, ⟨f0, f1, f2, f3, f4, f5⟩, HL8, HB8⟩) | (refine (HU.out w1.drew HL.out HB.out.drew).mono ?_; rintro e w9 ⟨rfl, ⟨d0, d1, d2, d3, d4, d5⟩, HL9, HB9⟩)))
      all_goals
        go_wp2_with fail
        refine (HW1.out _).mono ?_
        rintro e w7 ⟨rfl, hw7⟩
        subst hw7
        cases t1 with
        | false =>
          go_wp2_with fail
          go_ret
          exact ⟨rfl, HB8.out⟩
        | true =>
          go_wp2_with fail
          refine (HW2.out _).mono ?_
          rintro e w6 ⟨rfl, hw6⟩
          subst hw6
          cases t2 with
          | false =>
            go_wp2_with fail
            go_ret
            exact ⟨rfl, HB8.out⟩
          | true =>
            go_wp2_with fail
            go_ret
            exact ⟨rfl, HB8.out⟩
set_option maxRecDepth 100000 in
set_option maxHeartbeats 4000000 in
theorem alone_any {x : L6} (hv : x.v ≤ 18446744073709551615) (hp : x.p ≤ 18446744073709551615) (hn : x.n ≤ 9223372036854775807) (w : World) : Calls Try.prog 38 #[V6 x] w fun e w' => e = .returned (.int .i64 (aloneF x)) ∧ Below w.heap.size w w' := by
  have HL := Lib.hid (LfAt.new' w x)
  have HB := Lib.hid (lf_below' w x)
  by_cases h1 : x.n < 1
  · have e : aloneF x = 32 := by unfold aloneF; rw [if_pos (Or.inl h1)]
    rw [e]
    obtain ⟨v, p, n, b, wr, ex⟩ := x
    unfold V6
    simp only at h1 HL HB ⊢
    have d1 : decide (n < 1) = true := decide_eq_true h1
    clear e h1 hv hp hn
    go_enter Try.func38, Try.ntmps38
    go_wp2_with fail
    go_ret
    exact ⟨rfl, HB.out⟩
  · obtain ⟨m, hm⟩ : ∃ m : Nat, x.n = (m : Int) := ⟨x.n.toNat, by omega⟩
    by_cases h2 : x.big = true ∧ m % 512 ≠ 0
    · have e : aloneF x = 32 := by unfold aloneF; rw [if_pos (Or.inr ⟨h2.1, by rw [hm]; omega⟩)]
      rw [e]
      obtain ⟨v, p, n, b, wr, ex⟩ := x
      unfold V6
      simp only at h1 h2 hm HL HB ⊢
      obtain ⟨rfl, h2⟩ := h2
      subst hm
      have d1 : decide ((m : Int) < 1) = false := decide_eq_false h1
      have d2 : (((m : Int).tmod 512) == 0) = false := by
        rw [Int.tmod_eq_emod_of_nonneg (by omega)]
        exact beq_false_of_ne (by omega)
      have d3 : ¬ ((m : Int).tmod 512 = 0) := by
        rw [Int.tmod_eq_emod_of_nonneg (by omega)]
        omega
      clear e h1 hv hp hn
      go_enter Try.func38, Try.ntmps38
      go_wp2_with fail
      go_ret
      exact ⟨rfl, HB.out⟩
    · obtain ⟨v, p, n, b, wr, ex⟩ := x
      simp only at h1 h2 hm hv hp hn
      subst hm
      have e1 : ¬ ((m : Int) < 1 ∨ (b = true ∧ (m : Int) % 512 ≠ 0)) := fun o => o.elim h1 (fun o => h2 ⟨o.1, by have := o.2; omega⟩)
      unfold aloneF unitF
      simp only
      rw [if_neg e1, show ((m : Int)).toNat = m from rfl]
      cases b with
      | false => exact alone_false hv hp (by omega) h1 w
      | true => exact alone_true hv hp (by omega) h1 (by have := h2; simp at this; exact this) w
end Go.Proofs.Ytgjamnhepbblhaa
