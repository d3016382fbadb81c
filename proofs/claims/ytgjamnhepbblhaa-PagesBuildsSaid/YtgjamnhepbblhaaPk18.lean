import Derived.Test.YtgjamnhepbblhaaPk17
/- Pages: goesOn of any two rows. Own work. -/
namespace Go.Proofs.Ytgjamnhepbblhaa
open Go.RowKit Wk
set_option linter.unusedVariables false
theorem LfAt.free {w : World} {b : Nat} {x : L6} (h : LfAt w b x) (i : Nat) : w.frozen? ⟨b, i, none⟩ = false := by
  have h' : w.heap[b]? = _ := h
  simp [World.frozen?, h']
theorem LfAt.set0 {w : World} {b v p c : Nat} {n : Int} {bb wr ex : Bool} (h : LfAt w b ⟨v, p, n, bb, wr, ex⟩) : LfAt (w.setCell ⟨b, 0, none⟩ (.int .u64 (c : Int))) b ⟨c, p, n, bb, wr, ex⟩ := by
  have h' : w.heap[b]? = _ := h
  unfold LfAt
  simp [World.setCell, Array.getElem?_modify, h']
theorem LfAt.set1 {w : World} {b v p c : Nat} {n : Int} {bb wr ex : Bool} (h : LfAt w b ⟨v, p, n, bb, wr, ex⟩) : LfAt (w.setCell ⟨b, 1, none⟩ (.int .u64 (c : Int))) b ⟨v, c, n, bb, wr, ex⟩ := by
  have h' : w.heap[b]? = _ := h
  unfold LfAt
  simp [World.setCell, Array.getElem?_modify, h']
theorem LfAt.set2 {w : World} {b v p : Nat} {n c : Int} {bb wr ex : Bool} (h : LfAt w b ⟨v, p, n, bb, wr, ex⟩) : LfAt (w.setCell ⟨b, 2, none⟩ (.int .i64 c)) b ⟨v, p, c, bb, wr, ex⟩ := by
  have h' : w.heap[b]? = _ := h
  unfold LfAt
  simp [World.setCell, Array.getElem?_modify, h']
theorem LfAt.other {w : World} {b c i : Nat} {x : L6} {u : Value} (h : LfAt w b x) (hc : b ≠ c) : LfAt (w.setCell ⟨c, i, none⟩ u) b x := (Below.heap_setCell _ _ _ _ hc).trans h
/-- size of a row, where two rows lie besides -/
theorem size_2 {w : World} {A T R v p m v2 p2 : Nat} {n2 : Int} {b wr ex b2 wr2 ex2 : Bool} {y : L6} (hA : LfAt w A ⟨v, p, (m : Int), b, wr, ex⟩) (hT : LfAt w T ⟨v2, p2, n2, b2, wr2, ex2⟩) (hR : LfAt w R y) {s : Nat} (hs : m * 4096 = s) (hb : s ≤ 18446744073709551615) {w0 : World} (hw : Below w0.heap.size w0 w) : Calls Try.prog 45 #[.agg #[.int .u64 (v : Int), .int .u64 (p : Int), .int .i64 (m : Int), .bool b, .bool wr, .bool ex]] w fun e w' => e = .returned (.int .u64 (s : Int)) ∧ D6 w' A v p (m : Int) b wr ex ∧ D6 w' T v2 p2 n2 b2 wr2 ex2 ∧ (∀ i, w'.frozen? ⟨T, i, none⟩ = false) ∧ Hid (LfAt w' A ⟨v, p, (m : Int), b, wr, ex⟩) ∧ Hid (LfAt w' T ⟨v2, p2, n2, b2, wr2, ex2⟩) ∧ Hid (LfAt w' R y) ∧ Hid (Below w0.heap.size w0 w') := by
  subst hs
  exact (size_any (x := ⟨v, p, (m : Int), b, wr, ex⟩) (m := m) rfl hb w).mono fun _ _ ⟨e, k⟩ => ⟨e, (hA.below k).cells, (hT.below k).cells, fun i => (hT.below k).free i, hA.below k, hT.below k, hR.below k, hw.trans (k.mono hw.size)⟩
set_option maxRecDepth 100000 in
set_option maxHeartbeats 4000000 in
theorem goesOn_any {v p m : Nat} {b wr ex : Bool} {v2 p2 : Nat} {n2 : Int} {b2 wr2 ex2 : Bool} (hv : v + m * 4096 ≤ 18446744073709551615) (hp : p + m * 4096 ≤ 18446744073709551615) (w : World) : Calls Try.prog 36 #[V6 ⟨v, p, (m : Int), b, wr, ex⟩, V6 ⟨v2, p2, n2, b2, wr2, ex2⟩] w fun e w' => e = .returned (.bool (decide (v2 = v + m * 4096 ∧ p2 = p + m * 4096 ∧ b2 = b ∧ wr2 = wr ∧ ex2 = ex))) ∧ Below w.heap.size w w' := by
  unfold V6
  simp only
  obtain ⟨s, hs⟩ : ∃ s, m * 4096 = s := ⟨_, rfl⟩
  have HS := Lib.hid hs
  rw [hs] at hv hp ⊢
  have w1 : IntKind.u64.wrap ((v : Int) + (s : Int)) = ((v + s : Nat) : Int) := by rw [IntKind.wrap_u64]; omega
  have w2 : IntKind.u64.wrap ((p : Int) + (s : Int)) = ((p + s : Nat) : Int) := by rw [IntKind.wrap_u64]; omega
  obtain ⟨v1, hv1⟩ : ∃ x, v + s = x := ⟨_, rfl⟩
  obtain ⟨p1, hp1⟩ : ∃ x, p + s = x := ⟨_, rfl⟩
  rw [hv1] at w1 ⊢
  rw [hp1] at w2 ⊢
  have HSb : Hid (s ≤ 18446744073709551615) := show s ≤ 18446744073709551615 by omega
  clear hv hp hs hv1 hp1
  obtain ⟨HA, HRr, HT, HB⟩ : Hid (LfAt (((w.alloc (.cells #[.int .u64 (v : Int), .int .u64 (p : Int), .int .i64 (m : Int), .bool b, .bool wr, .bool ex] 34)).alloc (.cells #[.int .u64 (v2 : Int), .int .u64 (p2 : Int), .int .i64 n2, .bool b2, .bool wr2, .bool ex2] 34)).alloc (.cells #[.int .u64 (v : Int), .int .u64 (p : Int), .int .i64 (m : Int), .bool b, .bool wr, .bool ex] 34)) w.heap.size ⟨v, p, (m : Int), b, wr, ex⟩) ∧ Hid (LfAt (((w.alloc (.cells #[.int .u64 (v : Int), .int .u64 (p : Int), .int .i64 (m : Int), .bool b, .bool wr, .bool ex] 34)).alloc (.cells #[.int .u64 (v2 : Int), .int .u64 (p2 : Int), .int .i64 n2, .bool b2, .bool wr2, .bool ex2] 34)).alloc (.cells #[.int .u64 (v : Int), .int .u64 (p : Int), .int .i64 (m : Int), .bool b, .bool wr, .bool ex] 34)) (w.heap.size + 1) ⟨v2, p2, n2, b2, wr2, ex2⟩) ∧ Hid (LfAt (((w.alloc (.cells #[.int .u64 (v : Int), .int .u64 (p : Int), .int .i64 (m : Int), .bool b, .bool wr, .bool ex] 34)).alloc (.cells #[.int .u64 (v2 : Int), .int .u64 (p2 : Int), .int .i64 n2, .bool b2, .bool wr2, .bool ex2] 34)).alloc (.cells #[.int .u64 (v : Int), .int .u64 (p : Int), .int .i64 (m : Int), .bool b, .bool wr, .bool ex] 34)) (w.heap.size + 1 + 1) ⟨v, p, (m : Int), b, wr, ex⟩) ∧ Hid (Below w.heap.size w (((w.alloc (.cells #[.int .u64 (v : Int), .int .u64 (p : Int), .int .i64 (m : Int), .bool b, .bool wr, .bool ex] 34)).alloc (.cells #[.int .u64 (v2 : Int), .int .u64 (p2 : Int), .int .i64 n2, .bool b2, .bool wr2, .bool ex2] 34)).alloc (.cells #[.int .u64 (v : Int), .int .u64 (p : Int), .int .i64 (m : Int), .bool b, .bool wr, .bool ex] 34))) := by
    have a1 := LfAt.new' w ⟨v, p, (m : Int), b, wr, ex⟩
    have b1 := lf_below' w ⟨v, p, (m : Int), b, wr, ex⟩
    have e1 : (w.alloc (.cells #[.int .u64 (v : Int), .int .u64 (p : Int), .int .i64 (m : Int), .bool b, .bool wr, .bool ex] 34)).heap.size = w.heap.size + 1 := by simp
    simp only at a1 b1
    generalize (w.alloc (.cells #[.int .u64 (v : Int), .int .u64 (p : Int), .int .i64 (m : Int), .bool b, .bool wr, .bool ex] 34)) = y1 at *
    have a2 := LfAt.new' y1 ⟨v2, p2, n2, b2, wr2, ex2⟩
    have b2' := lf_below' y1 ⟨v2, p2, n2, b2, wr2, ex2⟩
    have e2 : (y1.alloc (.cells #[.int .u64 (v2 : Int), .int .u64 (p2 : Int), .int .i64 n2, .bool b2, .bool wr2, .bool ex2] 34)).heap.size = w.heap.size + 1 + 1 := by simp [e1]
    simp only at a2 b2'
    generalize (y1.alloc (.cells #[.int .u64 (v2 : Int), .int .u64 (p2 : Int), .int .i64 n2, .bool b2, .bool wr2, .bool ex2] 34)) = y2 at *
    have a3 := LfAt.new' y2 ⟨v, p, (m : Int), b, wr, ex⟩
    have b3 := lf_below' y2 ⟨v, p, (m : Int), b, wr, ex⟩
    simp only at a3 b3
    rw [e1] at a2
    rw [e2] at a3
    exact ⟨(a1.below b2').below b3, a2.below b3, a3, (b1.trans (b2'.mono b1.size)).trans (b3.mono (Nat.le_trans b1.size b2'.size))⟩
  go_enter Try.func36, Try.ntmps36
  go_wp2_with fail
  obtain ⟨A, hA⟩ : ∃ A, w.heap.size = A := ⟨_, rfl⟩
  generalize (((w.alloc (.cells #[.int .u64 (v : Int), .int .u64 (p : Int), .int .i64 (m : Int), .bool b, .bool wr, .bool ex] 34)).alloc (.cells #[.int .u64 (v2 : Int), .int .u64 (p2 : Int), .int .i64 n2, .bool b2, .bool wr2, .bool ex2] 34)).alloc (.cells #[.int .u64 (v : Int), .int .u64 (p : Int), .int .i64 (m : Int), .bool b, .bool wr, .bool ex] 34)) = W at *
  have hTA : w.heap.size ≠ w.heap.size + 1 + 1 := by omega
  have hTR : w.heap.size + 1 ≠ w.heap.size + 1 + 1 := by omega
  have HTw : Hid (w.heap.size ≤ w.heap.size + 1 + 1) := show w.heap.size ≤ w.heap.size + 1 + 1 by omega
  clear hA A
  generalize hT' : w.heap.size + 1 + 1 = T at *
  generalize hR' : w.heap.size + 1 = R at *
  clear hT' hR'
  obtain ⟨c0, c1, c2, c3, c4, c5⟩ := HA.out.cells
  obtain ⟨t0, t1, t2, t3, t4, t5⟩ := HT.out.cells
  simp only at c0 c1 c2 c3 c4 c5 t0 t1 t2 t3 t4 t5
  have tf := HT.out.free 0
  go_region_with (first | (go_at_call 45; refine (size_2 (w := W.drew) HA.out HT.out HRr.out HS.out HSb.out HB.out.drew).mono ?_; rintro e w9 ⟨rfl, ⟨d0, d1, d2, d3, d4, d5⟩, ⟨f0, f1, f2, f3, f4, f5⟩, ff, HA9, HT9, HR9, HB9⟩; have ff0 := ff 0; clear ff))
  all_goals
    have HA1 : Hid (LfAt (w9.setCell ⟨T, 0, none⟩ (.int .u64 (v1 : Int))) w.heap.size ⟨v, p, (m : Int), b, wr, ex⟩) := HA9.out.other hTA
    have HR1 : Hid (LfAt (w9.setCell ⟨T, 0, none⟩ (.int .u64 (v1 : Int))) R ⟨v2, p2, n2, b2, wr2, ex2⟩) := HR9.out.other hTR
    have HT1 : Hid (LfAt (w9.setCell ⟨T, 0, none⟩ (.int .u64 (v1 : Int))) T ⟨v1, p, (m : Int), b, wr, ex⟩) := HT9.out.set0
    have HB1 : Hid (Below w.heap.size w (w9.setCell ⟨T, 0, none⟩ (.int .u64 (v1 : Int)))) := HB9.out.setCell HTw.out _
    clear HA9 HR9 HT9 HB9 HA HRr HT HB c0 c1 c2 c3 c4 c5 t0 t1 t2 t3 t4 t5 tf d0 d1 d2 d3 d4 d5 f0 f1 f2 f3 f4 f5 ff0
    generalize (w9.setCell ⟨T, 0, none⟩ (.int .u64 (v1 : Int))) = W1 at *
    obtain ⟨c0, c1, c2, c3, c4, c5⟩ := HA1.out.cells
    obtain ⟨t0, t1, t2, t3, t4, t5⟩ := HT1.out.cells
    simp only at c0 c1 c2 c3 c4 c5 t0 t1 t2 t3 t4 t5
    have tf := HT1.out.free 1
    go_wp2_with fail
    go_region_with (first | (go_at_call 45; refine (size_2 (w := W1.drew) HA1.out HT1.out HR1.out HS.out HSb.out HB1.out.drew).mono ?_; rintro e w8 ⟨rfl, ⟨d0, d1, d2, d3, d4, d5⟩, ⟨f0, f1, f2, f3, f4, f5⟩, ff, HA9, HT9, HR9, HB9⟩; have ff0 := ff 1; clear ff))
    all_goals
      have HR2 : Hid (LfAt (w8.setCell ⟨T, 1, none⟩ (.int .u64 (p1 : Int))) R ⟨v2, p2, n2, b2, wr2, ex2⟩) := HR9.out.other hTR
      have HT2 : Hid (LfAt (w8.setCell ⟨T, 1, none⟩ (.int .u64 (p1 : Int))) T ⟨v1, p1, (m : Int), b, wr, ex⟩) := HT9.out.set1
      have HB2 : Hid (Below w.heap.size w (w8.setCell ⟨T, 1, none⟩ (.int .u64 (p1 : Int)))) := HB9.out.setCell HTw.out _
      clear HA9 HR9 HT9 HB9 HA1 HR1 HT1 HB1 c0 c1 c2 c3 c4 c5 t0 t1 t2 t3 t4 t5 tf d0 d1 d2 d3 d4 d5 f0 f1 f2 f3 f4 f5 ff0
      generalize (w8.setCell ⟨T, 1, none⟩ (.int .u64 (p1 : Int))) = W2 at *
      have r2 : (W2.setCell ⟨T, 2, none⟩ (.int .i64 n2)).heap.size = W2.heap.size := by simp [World.setCell]
      have HR3 : Hid (LfAt (W2.setCell ⟨T, 2, none⟩ (.int .i64 n2)) R ⟨v2, p2, n2, b2, wr2, ex2⟩) := HR2.out.other hTR
      have HT3 : Hid (LfAt (W2.setCell ⟨T, 2, none⟩ (.int .i64 n2)) T ⟨v1, p1, n2, b, wr, ex⟩) := HT2.out.set2
      have HB3 : Hid (Below w.heap.size w (W2.setCell ⟨T, 2, none⟩ (.int .i64 n2))) := HB2.out.setCell HTw.out _
      obtain ⟨c0, c1, c2, c3, c4, c5⟩ := HR2.out.cells
      obtain ⟨t0, t1, t2, t3, t4, t5⟩ := HT2.out.cells
      have tf := HT2.out.free 2
      simp only at c0 c1 c2 c3 c4 c5 t0 t1 t2 t3 t4 t5
      go_upto_region 5 with fail
      clear r2 HR2 HT2 HB2 c0 c1 c2 c3 c4 c5 t0 t1 t2 t3 t4 t5 tf
      generalize (W2.setCell ⟨T, 2, none⟩ (.int .i64 n2)) = W3 at *
      obtain ⟨c0, c1, c2, c3, c4, c5⟩ := HR3.out.cells
      obtain ⟨t0, t1, t2, t3, t4, t5⟩ := HT3.out.cells
      simp only at c0 c1 c2 c3 c4 c5 t0 t1 t2 t3 t4 t5
      go_wp2_with fail
      all_goals
        go_ret
        refine ⟨?_, HB3.out⟩
        first
          | (rw [decide_eq_true (show v2 = v1 ∧ p2 = p1 ∧ b2 = b ∧ wr2 = wr ∧ ex2 = ex by refine ⟨?_, ?_, ?_, ?_, ?_⟩ <;> first | assumption | omega)]; rfl)
          | (rw [decide_eq_false (show ¬ (v2 = v1 ∧ p2 = p1 ∧ b2 = b ∧ wr2 = wr ∧ ex2 = ex) by rintro ⟨a1, a2, a3, a4, a5⟩; first | contradiction | omega)]; rfl)
end Go.Proofs.Ytgjamnhepbblhaa
