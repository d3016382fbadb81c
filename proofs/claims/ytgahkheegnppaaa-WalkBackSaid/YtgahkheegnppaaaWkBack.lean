/- WalkBack as a call. Own work. -/
import Derived.Test.YtgahkheegnppaaaWkMake
namespace Go.Proofs.Ytgahkheegnppaaa
open Go.RowKit Wk
theorem m40000D : makeB (4194304, false, true, false, true) 1 = (4194317, 0) := by decide
theorem make_lt {x : Ent} {l : Int} {n : Nat} {k : Int} (hx : x.1 < 18446744073709551616) (h : makeB x l = (n, k)) : n < 18446744073709551616 := by
  have hr : rawE x < 18446744073709551616 := or_lt (or_lt (or_lt (or_lt (by decide) hx) (nbit_lt _ (by decide))) (nbit_lt _ (by decide))) (nbit_lt _ (by decide))
  unfold makeB at h
  split at h
  · cases h; decide
  · split at h
    · cases h; exact hr
    · cases h; decide
set_option maxRecDepth 100000 in
set_option maxHeartbeats 8000000 in
theorem walkBack_any {e : Nat} (he : e < 18446744073709551616) (l : Int) {x : Ent} (hx : x.1 < 18446744073709551616) (w : World) :
    Calls Try.prog 4 #[.int .u64 (e : Int), .int .i64 l, EntV x] w fun r w' => r = .returned (.bool true) ∧ Below w.heap.size w w' := by
  have HA : Hid (∀ W, Calls Try.prog 5 #[.int .u64 (e : Int), .int .i64 l] W (EntPost W (entB e l))) := entry_any he l
  have HC : Hid (∀ W, Calls Try.prog 7 #[EntV x, .int .i64 l] W (MakePost W (makeB x l))) := make_any hx l
  have HE : Hid (∀ W, Calls Try.prog 7 #[EntV (4194304, false, true, false, true), .int .i64 1] W (MakePost W (4194317, 0))) := fun W => m40000D ▸ make_any (x := (4194304, false, true, false, true)) (by decide) 1 W
  have hB1 : (entB e l).2 = 0 → ∀ W, Calls Try.prog 7 #[EntV (entB e l).1, .int .i64 l] W (MakePost W (e, 0)) := fun hk W => by
    have h1 : entB e l = ((entB e l).1, 0) := by rw [← hk]
    rw [← ent_back h1]
    exact make_any (Nat.lt_trans (ent_lt h1).1 (by decide)) l W
  have hB2 : (makeB x l).2 = 0 → ∀ W, Calls Try.prog 5 #[.int .u64 ((makeB x l).1 : Int), .int .i64 l] W (EntPost W (x, 0)) := fun hk W => by
    have h1 : makeB x l = ((makeB x l).1, 0) := by rw [← hk]
    rw [← make_back h1]
    exact entry_any (make_lt hx h1) l W
  obtain ⟨F, t, b, c, d⟩ := x
  generalize entB e l = r at *
  generalize makeB (F, t, b, c, d) l = q at *
  obtain ⟨⟨F', t', b', c', d'⟩, k⟩ := r
  obtain ⟨n, k2⟩ := q
  simp only [EntV] at *
  by_cases hk : k = 0 <;> by_cases hk2 : k2 = 0
  · have HF : Hid _ := hB1 hk
    subst hk
    have HG : Hid _ := hB2 hk2
    subst hk2
    clear hB1 hB2
    go_enter Try.func4, Try.ntmps4
    go_wp2_with fail
    refine (HA.out _).mono ?_
    rintro _ w1 ⟨rfl, hb1⟩
    have HX1 : Hid (BoxE w1 w.heap.size (F, t, b, c, d)) := BoxE.below (BoxE.new w (F, t, b, c, d)) hb1
    have HB1 : Hid (Below w.heap.size w w1) := ((Below.refl _ _).alloc (Nat.le_refl _) _).trans (hb1.mono (by simp))
    obtain ⟨x0, x1, x2, x3, x4⟩ := (HX1.out.below ((Below.refl _ _).alloc (Nat.le_refl _) (Obj.cells #[.int .u64 (F' : Int), .bool t', .bool b', .bool c', .bool d'] 24))).cells
    clear hb1
    simp only [EntV] at *
    go_wp2_with fail
    refine (HF.out _).mono ?_
    rintro _ w2 ⟨rfl, hb2⟩
    have HX2 : Hid (BoxE w2 w.heap.size (F, t, b, c, d)) := (HX1.out.below ((Below.refl _ _).alloc (Nat.le_refl _) _)).below hb2
    have HB2 : Hid (Below w.heap.size w w2) := (HB1.out.alloc HB1.out.size _).trans (hb2.mono (by have := HB1.out.size; simp; omega))
    clear hb2 HX1 x0 x1 x2 x3 x4
    obtain ⟨x0, x1, x2, x3, x4⟩ := HX2.out.cells
    go_wp2_with fail
    refine (HC.out _).mono ?_
    rintro _ w3 ⟨rfl, hb3⟩
    have HX3 : Hid (BoxE w3 w.heap.size (F, t, b, c, d)) := HX2.out.below hb3
    have HB3 : Hid (Below w.heap.size w w3) := HB2.out.trans (hb3.mono HB2.out.size)
    clear hb3 HX2 x0 x1 x2 x3 x4
    go_wp2_with fail
    refine (HG.out _).mono ?_
    rintro _ w4 ⟨rfl, hb4⟩
    have HX4 : Hid (BoxE w4 w.heap.size (F, t, b, c, d)) := HX3.out.below hb4
    have HB4 : Hid (Below w.heap.size w w4) := HB3.out.trans (hb4.mono HB3.out.size)
    obtain ⟨x0, x1, x2, x3, x4⟩ := (HX4.out.below ((Below.refl _ _).alloc (Nat.le_refl _) (Obj.cells #[.int .u64 (F : Int), .bool t, .bool b, .bool c, .bool d] 24))).cells
    clear hb4 HX3
    simp only [EntV] at *
    go_wp2_with (first | (refine wpList_neq_ent rfl _ _ rfl (p := (F, t, b, c, d)) (q := (F, t, b, c, d)) rfl rfl (bne_self_eq_false _) ?_))
    have HB5 : Hid (Below w.heap.size w (w4.alloc (Obj.cells #[.int .u64 (F : Int), .bool t, .bool b, .bool c, .bool d] 24))) := HB4.out.alloc HB4.out.size _
    refine (HE.out _).mono ?_
    rintro _ w6 ⟨rfl, hb6⟩
    have HB6 : Hid (Below w.heap.size w w6) := HB5.out.trans (hb6.mono HB5.out.size)
    clear hb6
    go_wp2_with fail
    go_ret
    exact ⟨rfl, HB6.out⟩
  · have HF : Hid _ := hB1 hk
    subst hk
    clear hB1 hB2
    go_enter Try.func4, Try.ntmps4
    go_wp2_with fail
    refine (HA.out _).mono ?_
    rintro _ w1 ⟨rfl, hb1⟩
    have HX1 : Hid (BoxE w1 w.heap.size (F, t, b, c, d)) := BoxE.below (BoxE.new w (F, t, b, c, d)) hb1
    have HB1 : Hid (Below w.heap.size w w1) := ((Below.refl _ _).alloc (Nat.le_refl _) _).trans (hb1.mono (by simp))
    obtain ⟨x0, x1, x2, x3, x4⟩ := (HX1.out.below ((Below.refl _ _).alloc (Nat.le_refl _) (Obj.cells #[.int .u64 (F' : Int), .bool t', .bool b', .bool c', .bool d'] 24))).cells
    clear hb1
    simp only [EntV] at *
    go_wp2_with fail
    refine (HF.out _).mono ?_
    rintro _ w2 ⟨rfl, hb2⟩
    have HX2 : Hid (BoxE w2 w.heap.size (F, t, b, c, d)) := (HX1.out.below ((Below.refl _ _).alloc (Nat.le_refl _) _)).below hb2
    have HB2 : Hid (Below w.heap.size w w2) := (HB1.out.alloc HB1.out.size _).trans (hb2.mono (by have := HB1.out.size; simp; omega))
    clear hb2 HX1 x0 x1 x2 x3 x4
    obtain ⟨x0, x1, x2, x3, x4⟩ := HX2.out.cells
    go_wp2_with fail
    refine (HC.out _).mono ?_
    rintro _ w3 ⟨rfl, hb3⟩
    have HX3 : Hid (BoxE w3 w.heap.size (F, t, b, c, d)) := HX2.out.below hb3
    have HB3 : Hid (Below w.heap.size w w3) := HB2.out.trans (hb3.mono HB2.out.size)
    clear hb3 HX2 x0 x1 x2 x3 x4
    go_wp2_with fail
    have HB5 : Hid (Below w.heap.size w w3) := HB3.out
    refine (HE.out _).mono ?_
    rintro _ w6 ⟨rfl, hb6⟩
    have HB6 : Hid (Below w.heap.size w w6) := HB5.out.trans (hb6.mono HB5.out.size)
    clear hb6
    go_wp2_with fail
    go_ret
    exact ⟨rfl, HB6.out⟩
  · have HG : Hid _ := hB2 hk2
    subst hk2
    clear hB1 hB2
    go_enter Try.func4, Try.ntmps4
    go_wp2_with fail
    refine (HA.out _).mono ?_
    rintro _ w1 ⟨rfl, hb1⟩
    have HX1 : Hid (BoxE w1 w.heap.size (F, t, b, c, d)) := BoxE.below (BoxE.new w (F, t, b, c, d)) hb1
    have HB1 : Hid (Below w.heap.size w w1) := ((Below.refl _ _).alloc (Nat.le_refl _) _).trans (hb1.mono (by simp))
    obtain ⟨x0, x1, x2, x3, x4⟩ := (HX1.out.below ((Below.refl _ _).alloc (Nat.le_refl _) (Obj.cells #[.int .u64 (F' : Int), .bool t', .bool b', .bool c', .bool d'] 24))).cells
    clear hb1
    simp only [EntV] at *
    go_wp2_with fail
    have HX2 : Hid (BoxE (w1.alloc (Obj.cells #[.int .u64 (F' : Int), .bool t', .bool b', .bool c', .bool d'] 24)) w.heap.size (F, t, b, c, d)) := HX1.out.below ((Below.refl _ _).alloc (Nat.le_refl _) _)
    have HB2 : Hid (Below w.heap.size w (w1.alloc (Obj.cells #[.int .u64 (F' : Int), .bool t', .bool b', .bool c', .bool d'] 24))) := HB1.out.alloc HB1.out.size _
    refine (HC.out _).mono ?_
    rintro _ w3 ⟨rfl, hb3⟩
    have HX3 : Hid (BoxE w3 w.heap.size (F, t, b, c, d)) := HX2.out.below hb3
    have HB3 : Hid (Below w.heap.size w w3) := HB2.out.trans (hb3.mono HB2.out.size)
    clear hb3 HX2 x0 x1 x2 x3 x4
    go_wp2_with fail
    refine (HG.out _).mono ?_
    rintro _ w4 ⟨rfl, hb4⟩
    have HX4 : Hid (BoxE w4 w.heap.size (F, t, b, c, d)) := HX3.out.below hb4
    have HB4 : Hid (Below w.heap.size w w4) := HB3.out.trans (hb4.mono HB3.out.size)
    obtain ⟨x0, x1, x2, x3, x4⟩ := (HX4.out.below ((Below.refl _ _).alloc (Nat.le_refl _) (Obj.cells #[.int .u64 (F : Int), .bool t, .bool b, .bool c, .bool d] 24))).cells
    clear hb4 HX3
    simp only [EntV] at *
    go_wp2_with (first | (refine wpList_neq_ent rfl _ _ rfl (p := (F, t, b, c, d)) (q := (F, t, b, c, d)) rfl rfl (bne_self_eq_false _) ?_))
    have HB5 : Hid (Below w.heap.size w (w4.alloc (Obj.cells #[.int .u64 (F : Int), .bool t, .bool b, .bool c, .bool d] 24))) := HB4.out.alloc HB4.out.size _
    refine (HE.out _).mono ?_
    rintro _ w6 ⟨rfl, hb6⟩
    have HB6 : Hid (Below w.heap.size w w6) := HB5.out.trans (hb6.mono HB5.out.size)
    clear hb6
    go_wp2_with fail
    go_ret
    exact ⟨rfl, HB6.out⟩
  · clear hB1 hB2
    go_enter Try.func4, Try.ntmps4
    go_wp2_with fail
    refine (HA.out _).mono ?_
    rintro _ w1 ⟨rfl, hb1⟩
    have HX1 : Hid (BoxE w1 w.heap.size (F, t, b, c, d)) := BoxE.below (BoxE.new w (F, t, b, c, d)) hb1
    have HB1 : Hid (Below w.heap.size w w1) := ((Below.refl _ _).alloc (Nat.le_refl _) _).trans (hb1.mono (by simp))
    obtain ⟨x0, x1, x2, x3, x4⟩ := (HX1.out.below ((Below.refl _ _).alloc (Nat.le_refl _) (Obj.cells #[.int .u64 (F' : Int), .bool t', .bool b', .bool c', .bool d'] 24))).cells
    clear hb1
    simp only [EntV] at *
    go_wp2_with fail
    have HX2 : Hid (BoxE (w1.alloc (Obj.cells #[.int .u64 (F' : Int), .bool t', .bool b', .bool c', .bool d'] 24)) w.heap.size (F, t, b, c, d)) := HX1.out.below ((Below.refl _ _).alloc (Nat.le_refl _) _)
    have HB2 : Hid (Below w.heap.size w (w1.alloc (Obj.cells #[.int .u64 (F' : Int), .bool t', .bool b', .bool c', .bool d'] 24))) := HB1.out.alloc HB1.out.size _
    refine (HC.out _).mono ?_
    rintro _ w3 ⟨rfl, hb3⟩
    have HX3 : Hid (BoxE w3 w.heap.size (F, t, b, c, d)) := HX2.out.below hb3
    have HB3 : Hid (Below w.heap.size w w3) := HB2.out.trans (hb3.mono HB2.out.size)
    clear hb3 HX2 x0 x1 x2 x3 x4
    go_wp2_with fail
    have HB5 : Hid (Below w.heap.size w w3) := HB3.out
    refine (HE.out _).mono ?_
    rintro _ w6 ⟨rfl, hb6⟩
    have HB6 : Hid (Below w.heap.size w w6) := HB5.out.trans (hb6.mono HB5.out.size)
    clear hb6
    go_wp2_with fail
    go_ret
    exact ⟨rfl, HB6.out⟩
end Go.Proofs.Ytgahkheegnppaaa
