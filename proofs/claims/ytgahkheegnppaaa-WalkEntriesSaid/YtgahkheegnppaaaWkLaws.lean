/- The document's Make; WalkEntries and WalkBack as calls. Own work. -/
import Derived.Test.YtgahkheegnppaaaWkRef
namespace Go.Proofs.Ytgahkheegnppaaa
open Go.RowKit Wk
theorem raw_ref (F : Nat) (t b c d : Bool) : rawE (F, t, b, c, d) = F ||| 1 ||| nbit c 2 ||| nbit d 4 ||| nbit b 8 := by
  show 1 ||| F ||| nbit c 2 ||| nbit d 4 ||| nbit b 8 = _
  rw [Nat.or_comm 1 F]
set_option maxRecDepth 100000 in
set_option maxHeartbeats 8000000 in
theorem refMake_any {x : Ent} (hx : x.1 < 18446744073709551616) (l : Int) (w : World) :
    Calls Try.prog 8 #[EntV x, .int .i64 l] w (MakePost w (makeB x l)) := by
  obtain ⟨F, t, b, c, d⟩ := x
  have hF : F < 18446744073709551616 := hx
  have HM0 : Hid (makeB (F, t, b, c, d) l = _) := ref_make (F, t, b, c, d) l
  rw [EntV]
  by_cases hl : l < 0 ∨ 2 < l
  · have HM : Hid (makeB (F, t, b, c, d) l = (0, 1)) := HM0.out.trans (if_pos hl)
    rcases hl with hl | hl
    · go_enter Try.func8, Try.ntmps8
      go_wp2
      go_ret2
      exact ⟨by rw [HM.out]; rfl, (Below.refl _ _).alloc (Nat.le_refl _) _⟩
    · go_enter Try.func8, Try.ntmps8
      go_wp2
      go_ret2
      exact ⟨by rw [HM.out]; rfl, (Below.refl _ _).alloc (Nat.le_refl _) _⟩
  · have hl3 : l = 0 ∨ l = 1 ∨ l = 2 := by omega
    by_cases hb : 4294967296 ≤ F
    · have HM : Hid (makeB (F, t, b, c, d) l = (0, 42)) := HM0.out.trans ((if_neg hl).trans (if_pos hb))
      have hbi : (4294967296 : Int) ≤ (F : Int) := by omega
      rcases hl3 with rfl | rfl | rfl
      all_goals
        go_enter Try.func8, Try.ntmps8
        go_wp2
        go_ret2
        exact ⟨by rw [HM.out]; rfl, (Below.refl _ _).alloc (Nat.le_refl _) _⟩
    · have hbi : ¬ ((4294967296 : Int) ≤ (F : Int)) := by omega
      have HM : Hid (makeB (F, t, b, c, d) l = if entB (rawE (F, t, b, c, d)) l = ((F, t, b, c, d), 0) then (rawE (F, t, b, c, d), 0) else (0, 42)) := HM0.out.trans ((if_neg hl).trans (if_neg hb))
      have L2 := nbit_lt c (n := 2) (by decide)
      have L4 := nbit_lt d (n := 4) (by decide)
      have L8 := nbit_lt b (n := 8) (by decide)
      have o1 : bits .or .u64 (F : Int) 1 = ((F ||| 1 : Nat) : Int) := u64_or_nat F 1 hF (by decide)
      have l1 := or_lt (b := 1) hF (by decide)
      have l2 := or_lt l1 L2
      have l3 := or_lt l2 L4
      have l4 := or_lt l3 L8
      have o2 : c = true → bits .or .u64 ((F ||| 1 : Nat) : Int) 2 = ((F ||| 1 ||| nbit c 2 : Nat) : Int) := fun h => by subst h; exact u64_or_nat _ 2 l1 (by decide)
      have o2' : c = false → F ||| 1 ||| nbit c 2 = F ||| 1 := fun h => by subst h; exact Nat.or_zero _
      have o3 : d = true → bits .or .u64 ((F ||| 1 ||| nbit c 2 : Nat) : Int) 4 = ((F ||| 1 ||| nbit c 2 ||| nbit d 4 : Nat) : Int) := fun h => by subst h; exact u64_or_nat _ 4 l2 (by decide)
      have o3' : d = false → F ||| 1 ||| nbit c 2 ||| nbit d 4 = F ||| 1 ||| nbit c 2 := fun h => by subst h; exact Nat.or_zero _
      have o4 : b = true → bits .or .u64 ((F ||| 1 ||| nbit c 2 ||| nbit d 4 : Nat) : Int) 8 = ((F ||| 1 ||| nbit c 2 ||| nbit d 4 ||| nbit b 8 : Nat) : Int) := fun h => by subst h; exact u64_or_nat _ 8 l3 (by decide)
      have o4' : b = false → F ||| 1 ||| nbit c 2 ||| nbit d 4 ||| nbit b 8 = F ||| 1 ||| nbit c 2 ||| nbit d 4 := fun h => by subst h; exact Nat.or_zero _
      rw [raw_ref] at HM
      generalize F ||| 1 ||| nbit c 2 ||| nbit d 4 ||| nbit b 8 = R at *
      generalize F ||| 1 ||| nbit c 2 ||| nbit d 4 = R3 at *
      generalize F ||| 1 ||| nbit c 2 = R2 at *
      generalize F ||| 1 = R1 at *
      clear L2 L4 L8 l1 l2 l3
      obtain ⟨F', t', b', c', d', k, hs⟩ : ∃ F' t' b' c' d' k, entB R l = ((F', t', b', c', d'), k) := ⟨_, _, _, _, _, _, rfl⟩
      have HE : Hid (∀ W, Calls Try.prog 6 #[.int .u64 (R : Int), .int .i64 l] W (EntPost W ((F', t', b', c', d'), k))) := fun W => hs ▸ refEntry_any l4 l W
      have hcase : (k ≠ 0 ∧ makeB (F, t, b, c, d) l = (0, 42)) ∨ (k = 0 ∧ ((F', t', b', c', d') != (F, t, b, c, d)) = true ∧ makeB (F, t, b, c, d) l = (0, 42)) ∨ (k = 0 ∧ ((F', t', b', c', d') != (F, t, b, c, d)) = false ∧ makeB (F, t, b, c, d) l = (R, 0)) := by
        rw [HM.out, hs]
        by_cases k0 : k = 0
        · subst k0
          by_cases he : ((F', t', b', c', d') : Ent) = (F, t, b, c, d)
          · rw [he, if_pos rfl]
            exact .inr (.inr ⟨rfl, by simp, rfl⟩)
          · rw [if_neg (fun h => he (congrArg Prod.fst h))]
            exact .inr (.inl ⟨rfl, bne_iff_ne.2 he, rfl⟩)
        · rw [if_neg (fun h => k0 (congrArg Prod.snd h))]
          exact .inl ⟨k0, rfl⟩
      clear hs HM l4 hx
      have hlo : decide (l < 0) = false := decide_eq_false (by omega)
      have hlo2 : decide (2 < l) = false := decide_eq_false (by omega)
      clear hl hl3 hb
      cases c <;> cases d <;> cases b
      all_goals
        simp only [forall_const, false_implies, Bool.false_eq_true, Bool.true_eq_false] at o2 o2' o3 o3' o4 o4'
        try subst o2'
        try subst o3'
        try subst o4'
        go_enter Try.func8, Try.ntmps8
        go_wp2_with fail
        refine (HE.out _).mono ?_
        rintro e w1 ⟨rfl, hb1⟩
        have HX : Hid (BoxE w1 w.heap.size (F, t, _, _, _)) := BoxE.below (BoxE.new w (F, t, _, _, _)) hb1
        have HB : Hid (Below w.heap.size w w1) := ((Below.refl _ _).alloc (Nat.le_refl _) _).trans (hb1.mono (by simp))
        obtain ⟨x0, x1, x2, x3, x4⟩ := (HX.out.below ((Below.refl _ _).alloc (Nat.le_refl _) (Obj.cells #[.int .u64 (F' : Int), .bool t', .bool b', .bool c', .bool d'] 24))).cells
        clear hb1 HE
        simp only [EntV] at *
        rcases hcase with ⟨hk, hm⟩ | ⟨hk, hne, hm⟩ | ⟨hk, hne, hm⟩
        · have HMk : Hid (makeB _ l = _) := hm
          clear hm
          go_wp2_with fail
          go_ret2
          exact ⟨by rw [HMk.out]; rfl, HB.out.alloc HB.out.size _⟩
        · have HMk : Hid (makeB _ l = _) := hm
          clear hm
          subst hk
          go_wp2_with (refine wpList_neq_ent rfl _ _ rfl (p := (F', t', b', c', d')) (q := (F, t, _, _, _)) rfl rfl hne ?_)
          go_ret2
          exact ⟨by rw [HMk.out]; rfl, HB.out.alloc HB.out.size _⟩
        · have HMk : Hid (makeB _ l = _) := hm
          clear hm
          subst hk
          go_wp2_with (refine wpList_neq_ent rfl _ _ rfl (p := (F', t', b', c', d')) (q := (F, t, _, _, _)) rfl rfl hne ?_)
          go_ret2
          exact ⟨by rw [HMk.out]; rfl, HB.out.alloc HB.out.size _⟩
theorem e5003 : entB 20483 2 = ((20480, false, false, true, false), 0) := by decide
set_option maxRecDepth 100000 in
set_option maxHeartbeats 8000000 in
theorem walkEntries_any {e : Nat} (he : e < 18446744073709551616) (l : Int) {x : Ent} (hx : x.1 < 18446744073709551616) (w : World) :
    Calls Try.prog 3 #[.int .u64 (e : Int), .int .i64 l, EntV x] w fun r w' => r = .returned (.bool true) ∧ Below w.heap.size w w' := by
  have HA : Hid (∀ W, Calls Try.prog 5 #[.int .u64 (e : Int), .int .i64 l] W (EntPost W (entB e l))) := entry_any he l
  have HB : Hid (∀ W, Calls Try.prog 6 #[.int .u64 (e : Int), .int .i64 l] W (EntPost W (entB e l))) := refEntry_any he l
  have HC : Hid (∀ W, Calls Try.prog 7 #[EntV x, .int .i64 l] W (MakePost W (makeB x l))) := make_any hx l
  have HD : Hid (∀ W, Calls Try.prog 8 #[EntV x, .int .i64 l] W (MakePost W (makeB x l))) := refMake_any hx l
  have HE : Hid (∀ W, Calls Try.prog 5 #[.int .u64 20483, .int .i64 2] W (EntPost W ((20480, false, false, true, false), 0))) := fun W => e5003 ▸ entry_any (e := 20483) (by decide) 2 W
  obtain ⟨F, t, b, c, d⟩ := x
  generalize entB e l = r at *
  generalize makeB (F, t, b, c, d) l = q at *
  obtain ⟨⟨F', t', b', c', d'⟩, k⟩ := r
  obtain ⟨n, k2⟩ := q
  simp only [EntV] at *
  go_enter Try.func3, Try.ntmps3
  go_wp2_with fail
  refine (HA.out _).mono ?_
  rintro _ w1 ⟨rfl, hb1⟩
  have HX1 : Hid (BoxE w1 w.heap.size (F, t, b, c, d)) := BoxE.below (BoxE.new w (F, t, b, c, d)) hb1
  have HB1 : Hid (Below w.heap.size w w1) := ((Below.refl _ _).alloc (Nat.le_refl _) _).trans (hb1.mono (by simp))
  clear hb1
  simp only [EntV] at *
  go_wp2_with fail
  refine (HB.out _).mono ?_
  rintro _ w2 ⟨rfl, hb2⟩
  have HY2 : Hid (BoxE w2 w1.heap.size (F', t', b', c', d')) := BoxE.below (BoxE.new w1 (F', t', b', c', d')) hb2
  have HX2 : Hid (BoxE w2 w.heap.size (F, t, b, c, d)) := (HX1.out.below ((Below.refl _ _).alloc (Nat.le_refl _) _)).below hb2
  have HB2 : Hid (Below w.heap.size w w2) := (HB1.out.alloc HB1.out.size _).trans (hb2.mono (by have := HB1.out.size; simp; omega))
  obtain ⟨x0, x1, x2, x3, x4⟩ := (HX2.out.below ((Below.refl _ _).alloc (Nat.le_refl _) (Obj.cells #[.int .u64 (F' : Int), .bool t', .bool b', .bool c', .bool d'] 24))).cells
  clear hb2 HX1
  simp only [EntV] at *
  go_wp2_with fail
  refine (HC.out _).mono ?_
  rintro _ w3 ⟨rfl, hb3⟩
  have HZ3 : Hid (BoxE w3 w2.heap.size (F', t', b', c', d')) := BoxE.below (BoxE.new w2 (F', t', b', c', d')) hb3
  have HY3 : Hid (BoxE w3 w1.heap.size (F', t', b', c', d')) := (HY2.out.below ((Below.refl _ _).alloc (Nat.le_refl _) _)).below hb3
  have HX3 : Hid (BoxE w3 w.heap.size (F, t, b, c, d)) := (HX2.out.below ((Below.refl _ _).alloc (Nat.le_refl _) _)).below hb3
  have HB3 : Hid (Below w.heap.size w w3) := (HB2.out.alloc HB2.out.size _).trans (hb3.mono (by have := HB2.out.size; simp; omega))
  clear hb3 HX2 HY2 x0 x1 x2 x3 x4
  obtain ⟨x0, x1, x2, x3, x4⟩ := HX3.out.cells
  go_wp2_with fail
  refine (HD.out _).mono ?_
  rintro _ w4 ⟨rfl, hb4⟩
  have HZ4 : Hid (BoxE w4 w2.heap.size (F', t', b', c', d')) := HZ3.out.below hb4
  have HY4 : Hid (BoxE w4 w1.heap.size (F', t', b', c', d')) := HY3.out.below hb4
  have HB4 : Hid (Below w.heap.size w w4) := HB3.out.trans (hb4.mono HB3.out.size)
  clear hb4 HX3 HY3 HZ3 x0 x1 x2 x3 x4
  go_wp2_with fail
  refine (HE.out _).mono ?_
  rintro _ w5 ⟨rfl, hb5⟩
  have HZ5 : Hid (BoxE w5 w2.heap.size (F', t', b', c', d')) := HZ4.out.below hb5
  have HY5 : Hid (BoxE w5 w1.heap.size (F', t', b', c', d')) := HY4.out.below hb5
  have HB5 : Hid (Below w.heap.size w w5) := HB4.out.trans (hb5.mono HB4.out.size)
  obtain ⟨y0, y1, y2, y3, y4⟩ := (HY5.out.below ((Below.refl _ _).alloc (Nat.le_refl _) (Obj.cells #[.int .u64 20480, .bool false, .bool false, .bool true, .bool false] 24))).cells
  obtain ⟨z0, z1, z2, z3, z4⟩ := (HZ5.out.below ((Below.refl _ _).alloc (Nat.le_refl _) (Obj.cells #[.int .u64 20480, .bool false, .bool false, .bool true, .bool false] 24))).cells
  clear hb5 HZ4 HY4
  simp only [EntV] at *
  go_wp2_with (first | (refine wpList_eql_ent rfl _ _ rfl (p := (F', t', b', c', d')) (q := (F', t', b', c', d')) rfl rfl (beq_self_eq_true _) ?_) | (refine wpList_eql_ent rfl _ _ rfl (p := (20480, false, false, true, false)) (q := (20480, false, false, true, false)) rfl rfl rfl ?_))
  go_ret
  exact ⟨rfl, HB5.out.alloc HB5.out.size _⟩
end Go.Proofs.Ytgahkheegnppaaa
