import Derived.Test.YtgjamnhepbblhaaPk05
/- Pages: begun; row at the page of PagesNames. Own work. -/
namespace Go.Proofs.Ytgjamnhepbblhaa
open Go.RowKit Wk
set_option linter.unusedVariables false
set_option maxRecDepth 100000 in
set_option maxHeartbeats 4000000 in
theorem begun_any {w : World} {G m a : Nat} (hm : m + 1 ≤ 1024) (ha : a + 4096 ≤ 18446744073709551615) : Calls Try.prog 34 #[.slice (some ⟨G, 0, none⟩) (m + 1) (m + 1), .int .u64 (a : Int)] w fun e w' => e = .returned (.pointer (some ⟨w.heap.size, 0, none⟩)) ∧ (∃ r, Bb w' w.heap.size (win G 0) (.slice none 0 0) (.slice none 0 0) r (a + 4096) ∧ (m ≠ 0 → r = .slice (some ⟨G, 512, none⟩) m m)) ∧ Below w.heap.size w w' := by
  have HB0 : Hid (Bb (w.alloc (.cells #[.slice none 0 0, .slice none 0 0, .slice none 0 0, .slice (some ⟨G, 0, none⟩) (m + 1) (m + 1), .int .u64 (a : Int)] 87)) w.heap.size (.slice none 0 0) (.slice none 0 0) (.slice none 0 0) (.slice (some ⟨G, 0, none⟩) (m + 1) (m + 1)) a) := heap_alloc_new w _
  have HBl : Hid (Below w.heap.size w (w.alloc (.cells #[.slice none 0 0, .slice none 0 0, .slice none 0 0, .slice (some ⟨G, 0, none⟩) (m + 1) (m + 1), .int .u64 (a : Int)] 87))) := (Below.refl _ _).alloc (Nat.le_refl _) _
  go_enter Try.func34, Try.ntmps34
  go_wp2_with fail
  refine (begin0 (m := m) HB0.out hm ha).mono ?_
  rintro e w1 ⟨rfl, r, hb1, hr, hk⟩
  have hbl : Below w.heap.size w w1 := HBl.out.trans (hk.below (by simp) (fun i _ e => by omega))
  have HB1 := Lib.hid hb1
  have HBl1 := Lib.hid hbl
  clear hb1 hk hbl HB0 HBl
  go_wp2_with fail
  go_ret
  exact ⟨rfl, ⟨r, HB1.out, fun e => by rw [hr e, Nat.zero_add]⟩, HBl1.out⟩
/-- a leaf in its block -/
def LfAt (w : World) (b : Nat) (x : L6) : Prop := w.heap[b]? = some (.cells #[.int .u64 (x.v : Int), .int .u64 (x.p : Int), .int .i64 x.n, .bool x.big, .bool x.wr, .bool x.ex] 34 (0, 0))
theorem LfAt.lt {w : World} {b : Nat} {x : L6} (h : LfAt w b x) : b < w.heap.size := (Array.getElem?_eq_some_iff.1 h).1
theorem LfAt.keeps {S : Nat → Prop} {w w' : World} {b : Nat} {x : L6} (h : LfAt w b x) (k : Keeps S w w') (hn : ¬ S b) : LfAt w' b x := (k.block b h.lt hn).trans h
theorem LfAt.below {w w' : World} {b : Nat} {x : L6} (h : LfAt w b x) (hb : Below w.heap.size w w') : LfAt w' b x := (hb.block b h.lt).trans h
theorem LfAt.cells {w : World} {b : Nat} {x : L6} (h : LfAt w b x) : w.cell? ⟨b, 0, none⟩ = some (.int .u64 (x.v : Int)) ∧ w.cell? ⟨b, 1, none⟩ = some (.int .u64 (x.p : Int)) ∧ w.cell? ⟨b, 2, none⟩ = some (.int .i64 x.n) ∧ w.cell? ⟨b, 3, none⟩ = some (.bool x.big) ∧ w.cell? ⟨b, 4, none⟩ = some (.bool x.wr) ∧ w.cell? ⟨b, 5, none⟩ = some (.bool x.ex) := by
  have h' : w.heap[b]? = _ := h
  refine ⟨?_, ?_, ?_, ?_, ?_, ?_⟩ <;> simp [World.cell?, h']
/-- PagesNames' page -/
def lfC : L6 := ⟨12288, 32768, 1, false, true, false⟩
set_option maxRecDepth 100000 in
set_option maxHeartbeats 4000000 in
theorem row_C {w : World} {B G : Nat} {o1 o2 : Value} (h : Bb w B (win G 0) o1 o2 (.slice (some ⟨G, 512, none⟩) 2 2) 69632) (hG : GAt w G 3 (fun _ => 0)) (hne : B ≠ G) : Calls Try.prog 35 #[.pointer (some ⟨B, 0, none⟩), V6 lfC] w fun e w' => e = .returned (.tuple #[]) ∧ GAt w' G 3 mC ∧ Keeps (fun q => q = B ∨ q = G) w w' := by
  have HL : Hid (LfAt (w.alloc (.cells #[.int .u64 12288, .int .u64 32768, .int .i64 1, .bool false, .bool true, .bool false] 34)) w.heap.size lfC) := heap_alloc_new w _
  have HBl : Hid (Below w.heap.size w (w.alloc (.cells #[.int .u64 12288, .int .u64 32768, .int .i64 1, .bool false, .bool true, .bool false] 34))) := (Below.refl _ _).alloc (Nat.le_refl _) _
  have HSz : Hid (∀ W, Calls Try.prog 45 #[.agg #[.int .u64 12288, .int .u64 32768, .int .i64 1, .bool false, .bool true, .bool false]] W fun e w' => e = .returned (.int .u64 4096) ∧ Below W.heap.size W w') := fun W => size_any (x := lfC) (m := 1) rfl (by omega) W
  have HUn : Hid (∀ W, Calls Try.prog 46 #[.agg #[.int .u64 12288, .int .u64 32768, .int .i64 1, .bool false, .bool true, .bool false]] W fun e w' => e = .returned (.int .u64 4096) ∧ Below W.heap.size W w') := fun W => unit_any lfC W
  have HLv : Hid (∀ W, Calls Try.prog 40 #[.bool false] W fun e w' => e = .returned (.int .i64 2) ∧ w' = W) := fun W => leafLevel_any false W
  have HS2 : Hid (∀ {W : World} {o0 o1 r : Value} {a : Nat}, Bb W B o0 o1 (win G 1024) r a → GAt W G 3 mB → Calls Try.prog 48 #[.pointer (some ⟨B, 0, none⟩), .int .u64 12288, .int .i64 2, .agg #[.int .u64 32768, .bool false, .bool false, .bool true, .bool false]] W fun e w' => e = .returned (.tuple #[]) ∧ GAt w' G 3 mC ∧ Keeps (fun q => q = G) W w') := fun hb hg => set2 (k := 2) (v := 12288) (x := (32768, false, false, true, false)) (rw' := 32771) hb hg (by omega) hne (by decide) (by decide)
  have HB := Lib.hid h
  have HG := Lib.hid hG
  clear h hG
  unfold V6 lfC
  simp only
  go_enter Try.func35, Try.ntmps35
  go_wp2_with fail
  refine (HLv.out _).mono ?_
  rintro e w1 ⟨rfl, rfl⟩
  have hXB : w.heap.size ≠ B := Nat.ne_of_gt HB.out.lt
  have hXG : w.heap.size ≠ G := Nat.ne_of_gt HG.out.lt
  have HB1 := Lib.hid (HB.out.below HBl.out)
  have HG1 := Lib.hid (HG.out.below HBl.out)
  have HK1 := Lib.hid (Keeps.of_below (S := fun q => q = B ∨ q = G) HBl.out)
  generalize (w.alloc (.cells #[.int .u64 12288, .int .u64 32768, .int .i64 1, .bool false, .bool true, .bool false] 34)) = w1 at *
  clear HBl HB HG
  generalize w.heap.size = X at *
  obtain ⟨c0, c1, c2, c3, c4, c5⟩ : w1.cell? ⟨X, 0, none⟩ = some (.int .u64 12288) ∧ w1.cell? ⟨X, 1, none⟩ = some (.int .u64 32768) ∧ w1.cell? ⟨X, 2, none⟩ = some (.int .i64 1) ∧ w1.cell? ⟨X, 3, none⟩ = some (.bool false) ∧ w1.cell? ⟨X, 4, none⟩ = some (.bool true) ∧ w1.cell? ⟨X, 5, none⟩ = some (.bool false) := HL.out.cells
  go_wp2_with fail
  refine wp_loop_rounds 2 ?_
  rw [rounds_succ]
  go_wp2_with fail
  refine (HSz.out _).mono ?_
  rintro e w2 ⟨rfl, hb2⟩
  have HL2 := Lib.hid (HL.out.below hb2)
  have HB2 := Lib.hid (HB1.out.below hb2)
  have HG2 := Lib.hid (HG1.out.below hb2)
  have HK2 := Lib.hid (HK1.out.trans (Keeps.of_below (S := fun _ => False) hb2) (fun _ _ e => e.elim))
  clear hb2 HL HB1 HG1 HK1 c0 c1 c2 c3 c4 c5
  obtain ⟨c0, c1, c2, c3, c4, c5⟩ : w2.cell? ⟨X, 0, none⟩ = some (.int .u64 12288) ∧ w2.cell? ⟨X, 1, none⟩ = some (.int .u64 32768) ∧ w2.cell? ⟨X, 2, none⟩ = some (.int .i64 1) ∧ w2.cell? ⟨X, 3, none⟩ = some (.bool false) ∧ w2.cell? ⟨X, 4, none⟩ = some (.bool true) ∧ w2.cell? ⟨X, 5, none⟩ = some (.bool false) := HL2.out.cells
  go_wp2_with fail
  refine (down_C HB2.out HG2.out hne).mono ?_
  rintro e w3 ⟨rfl, ⟨r, hb3⟩, hg3, hk3⟩
  have HL3 := Lib.hid (HL2.out.keeps hk3 (fun e => e.elim hXB hXG))
  have HB3 := Lib.hid hb3
  have HG3 := Lib.hid hg3
  have HK3 := Lib.hid (HK2.out.trans hk3 (fun _ _ e => e))
  clear hb3 hg3 hk3 HL2 HB2 HG2 HK2 c0 c1 c2 c3 c4 c5
  obtain ⟨c0, c1, c2, c3, c4, c5⟩ : w3.cell? ⟨X, 0, none⟩ = some (.int .u64 12288) ∧ w3.cell? ⟨X, 1, none⟩ = some (.int .u64 32768) ∧ w3.cell? ⟨X, 2, none⟩ = some (.int .i64 1) ∧ w3.cell? ⟨X, 3, none⟩ = some (.bool false) ∧ w3.cell? ⟨X, 4, none⟩ = some (.bool true) ∧ w3.cell? ⟨X, 5, none⟩ = some (.bool false) := HL3.out.cells
  go_wp2_with fail
  refine (HS2.out HB3.out HG3.out).mono ?_
  rintro e w4 ⟨rfl, hg4, hk4⟩
  have HL4 := Lib.hid (HL3.out.keeps hk4 hXG)
  have HG4 := Lib.hid hg4
  have HK4 := Lib.hid (HK3.out.trans hk4 (fun _ _ e => Or.inr e))
  clear hg4 hk4 HL3 HB3 HG3 HK3 c0 c1 c2 c3 c4 c5
  obtain ⟨c0, c1, c2, c3, c4, c5⟩ : w4.cell? ⟨X, 0, none⟩ = some (.int .u64 12288) ∧ w4.cell? ⟨X, 1, none⟩ = some (.int .u64 32768) ∧ w4.cell? ⟨X, 2, none⟩ = some (.int .i64 1) ∧ w4.cell? ⟨X, 3, none⟩ = some (.bool false) ∧ w4.cell? ⟨X, 4, none⟩ = some (.bool true) ∧ w4.cell? ⟨X, 5, none⟩ = some (.bool false) := HL4.out.cells
  go_wp2_with fail
  refine (HUn.out _).mono ?_
  rintro e w5 ⟨rfl, hb5⟩
  have HL5 := Lib.hid (HL4.out.below hb5)
  have HG5 := Lib.hid (HG4.out.below hb5)
  have HK5 := Lib.hid (HK4.out.trans (Keeps.of_below (S := fun _ => False) hb5) (fun _ _ e => e.elim))
  clear hb5 HL4 HG4 HK4 c0 c1 c2 c3 c4 c5
  obtain ⟨c0, c1, c2, c3, c4, c5⟩ : w5.cell? ⟨X, 0, none⟩ = some (.int .u64 12288) ∧ w5.cell? ⟨X, 1, none⟩ = some (.int .u64 32768) ∧ w5.cell? ⟨X, 2, none⟩ = some (.int .i64 1) ∧ w5.cell? ⟨X, 3, none⟩ = some (.bool false) ∧ w5.cell? ⟨X, 4, none⟩ = some (.bool true) ∧ w5.cell? ⟨X, 5, none⟩ = some (.bool false) := HL5.out.cells
  go_wp2_with fail
  rw [rounds_succ]
  go_wp2_with fail
  refine (HSz.out _).mono ?_
  rintro e w6 ⟨rfl, hb6⟩
  have HG6 := Lib.hid (HG5.out.below hb6)
  have HK6 := Lib.hid (HK5.out.trans (Keeps.of_below (S := fun _ => False) hb6) (fun _ _ e => e.elim))
  clear hb6 HG5 HK5
  go_wp2_with fail
  go_end0
  exact ⟨rfl, HG6.out, HK6.out⟩
end Go.Proofs.Ytgjamnhepbblhaa
/- Pages: alone, end, refusal, tables, Count at no rows and at the page of PagesNames. Own work. -/
namespace Go.Proofs.Ytgjamnhepbblhaa
open Go.RowKit Wk
set_option linter.unusedVariables false
/-- the page's cells -/
def C6 (w : World) (X : Nat) : Prop := w.cell? ⟨X, 0, none⟩ = some (.int .u64 12288) ∧ w.cell? ⟨X, 1, none⟩ = some (.int .u64 32768) ∧ w.cell? ⟨X, 2, none⟩ = some (.int .i64 1) ∧ w.cell? ⟨X, 3, none⟩ = some (.bool false) ∧ w.cell? ⟨X, 4, none⟩ = some (.bool true) ∧ w.cell? ⟨X, 5, none⟩ = some (.bool false)
theorem LfAt.c6 {w : World} {X : Nat} (h : LfAt w X lfC) : C6 w X := h.cells
theorem LfAt.new (w : World) : LfAt (w.alloc (.cells #[.int .u64 12288, .int .u64 32768, .int .i64 1, .bool false, .bool true, .bool false] 34)) w.heap.size lfC := heap_alloc_new w _
theorem lf_below (w : World) : Below w.heap.size w (w.alloc (.cells #[.int .u64 12288, .int .u64 32768, .int .i64 1, .bool false, .bool true, .bool false] 34)) := (Below.refl _ _).alloc (Nat.le_refl _) _
theorem unit_C {w : World} {X : Nat} (h : LfAt w X lfC) {w0 : World} (hb : Below w0.heap.size w0 w) : Calls Try.prog 46 #[.agg #[.int .u64 12288, .int .u64 32768, .int .i64 1, .bool false, .bool true, .bool false]] w fun e w' => e = .returned (.int .u64 4096) ∧ C6 w' X ∧ Hid (LfAt w' X lfC) ∧ Hid (Below w0.heap.size w0 w') :=
  (unit_any lfC w).mono fun _ _ ⟨e, b⟩ => ⟨e, (h.below b).c6, h.below b, hb.trans (b.mono hb.size)⟩
theorem size_C {w : World} {X : Nat} (h : LfAt w X lfC) {w0 : World} (hb : Below w0.heap.size w0 w) : Calls Try.prog 45 #[.agg #[.int .u64 12288, .int .u64 32768, .int .i64 1, .bool false, .bool true, .bool false]] w fun e w' => e = .returned (.int .u64 4096) ∧ C6 w' X ∧ Hid (LfAt w' X lfC) ∧ Hid (Below w0.heap.size w0 w') :=
  (size_any (x := lfC) (m := 1) rfl (by omega) w).mono fun _ _ ⟨e, b⟩ => ⟨e, (h.below b).c6, h.below b, hb.trans (b.mono hb.size)⟩
set_option maxRecDepth 100000 in
set_option maxHeartbeats 4000000 in
theorem end_C {w : World} : Calls Try.prog 39 #[.agg #[.int .u64 12288, .int .u64 32768, .int .i64 1, .bool false, .bool true, .bool false]] w fun e w' => e = .returned (.int .u64 16384) ∧ Below w.heap.size w w' := by
  have HL := Lib.hid (LfAt.new w)
  have HB := Lib.hid (lf_below w)
  go_enter Try.func39, Try.ntmps39
  go_wp2_with fail
  obtain ⟨c0, c1, c2, c3, c4, c5⟩ := HL.out.c6
  generalize (w.alloc (.cells #[.int .u64 12288, .int .u64 32768, .int .i64 1, .bool false, .bool true, .bool false] 34)) = w1 at *
  generalize hX : w.heap.size = X at *
  subst hX
  go_region_held3 (fun w' => w'.cell? ⟨w.heap.size, 0, none⟩ = some (.int .u64 12288) ∧ w'.cell? ⟨w.heap.size, 1, none⟩ = some (.int .u64 32768) ∧ w'.cell? ⟨w.heap.size, 2, none⟩ = some (.int .i64 1) ∧ w'.cell? ⟨w.heap.size, 3, none⟩ = some (.bool false) ∧ w'.cell? ⟨w.heap.size, 4, none⟩ = some (.bool true) ∧ w'.cell? ⟨w.heap.size, 5, none⟩ = some (.bool false)) (go_keep) (first | (go_at_call 45; refine (size_C (w := w1.drew) HL.out HB.out.drew).mono ?_; rintro e w9 ⟨rfl, ⟨d0, d1, d2, d3, d4, d5⟩, HL9, HB9⟩))
  all_goals
    go_wp2_with fail
    go_ret
    exact ⟨rfl, HB9.out⟩
set_option maxRecDepth 100000 in
set_option maxHeartbeats 4000000 in
theorem alone_C {w : World} : Calls Try.prog 38 #[.agg #[.int .u64 12288, .int .u64 32768, .int .i64 1, .bool false, .bool true, .bool false]] w fun e w' => e = .returned (.int .i64 0) ∧ Below w.heap.size w w' := by
  have HL := Lib.hid (LfAt.new w)
  have HB := Lib.hid (lf_below w)
  have HW1 : Hid (∀ W, Calls Try.prog 33 #[.int .u64 12288, .int .i64 1, .int .u64 549755813888] W fun e w' => e = .returned (.bool true) ∧ w' = W) := fun W => pwithin_any (a := 12288) (p := 1) (bound := 549755813888) (by omega) (by omega) (by omega) W
  have HW2 : Hid (∀ W, Calls Try.prog 33 #[.int .u64 32768, .int .i64 1, .int .u64 4294967296] W fun e w' => e = .returned (.bool true) ∧ w' = W) := fun W => pwithin_any (a := 32768) (p := 1) (bound := 4294967296) (by omega) (by omega) (by omega) W
  go_enter Try.func38, Try.ntmps38
  go_wp2_with fail
  obtain ⟨c0, c1, c2, c3, c4, c5⟩ := HL.out.c6
  generalize (w.alloc (.cells #[.int .u64 12288, .int .u64 32768, .int .i64 1, .bool false, .bool true, .bool false] 34)) = w1 at *
  go_region_held3 (fun w' => w'.cell? ⟨w.heap.size, 0, none⟩ = some (.int .u64 12288) ∧ w'.cell? ⟨w.heap.size, 1, none⟩ = some (.int .u64 32768) ∧ w'.cell? ⟨w.heap.size, 2, none⟩ = some (.int .i64 1) ∧ w'.cell? ⟨w.heap.size, 3, none⟩ = some (.bool false) ∧ w'.cell? ⟨w.heap.size, 4, none⟩ = some (.bool true) ∧ w'.cell? ⟨w.heap.size, 5, none⟩ = some (.bool false)) (go_keep) (first | (go_at_call 46; first | (refine (unit_C HL9.out HB9.out).mono ?_; rintro e w8 ⟨rfl, ⟨f0, f1, f2, f3, f4, f5⟩, HL8, HB8⟩) | (refine (unit_C (w := w1.drew) HL.out HB.out.drew).mono ?_; rintro e w9 ⟨rfl, ⟨d0, d1, d2, d3, d4, d5⟩, HL9, HB9⟩)))
  all_goals
    go_wp2_with fail
    refine (HW1.out _).mono ?_
    rintro e w7 ⟨rfl, hw7⟩
    subst hw7
    go_wp2_with fail
    refine (HW2.out _).mono ?_
    rintro e w6 ⟨rfl, hw6⟩
    subst hw6
    go_wp2_with fail
    go_ret
    exact ⟨rfl, HB8.out⟩
theorem C6.kept {w w' : World} {X : Nat} (h : C6 w X) (e : w'.heap[X]? = w.heap[X]?) : C6 w' X := by
  have k (i : Nat) : w'.cell? ⟨X, i, none⟩ = w.cell? ⟨X, i, none⟩ := World.cell?_of_block (a := ⟨X, i, none⟩) e
  unfold C6
  rw [k, k, k, k, k, k]
  exact h
/-- a list of that page alone -/
def Lf1 (w : World) (R : Nat) : Prop := R < w.heap.size ∧ C6 w R
theorem Lf1.below {w w' : World} {R : Nat} (h : Lf1 w R) (hb : Below w.heap.size w w') : Lf1 w' R := ⟨Nat.lt_of_lt_of_le h.1 hb.size, h.2.kept (hb.block R h.1)⟩
theorem Lf1.keeps {S : Nat → Prop} {w w' : World} {R : Nat} (h : Lf1 w R) (hk : Keeps S w w') (hn : ¬ S R) : Lf1 w' R := ⟨Nat.lt_of_lt_of_le h.1 hk.size, h.2.kept (hk.block R h.1 hn)⟩
set_option maxRecDepth 100000 in
set_option maxHeartbeats 4000000 in
theorem refusal_nil {w : World} : Calls Try.prog 31 #[.slice none 0 0] w fun e w' => e = .returned (.int .i64 0) ∧ w' = w := by
  go_enter Try.func31, Try.ntmps31
  go_wp2_with fail
  refine wp_loop_rounds 1 ?_
  rw [rounds_succ]
  go_wp2_with fail
  go_ret
  exact ⟨rfl, rfl⟩
set_option maxRecDepth 100000 in
set_option maxHeartbeats 4000000 in
theorem refusal_C {w : World} {R : Nat} (h : Lf1 w R) : Calls Try.prog 31 #[.slice (some ⟨R, 0, none⟩) 1 1] w fun e w' => e = .returned (.int .i64 0) ∧ Below w.heap.size w w' := by
  obtain ⟨c0, c1, c2, c3, c4, c5⟩ := h.2
  have HR := Lib.hid h
  clear h
  go_enter Try.func31, Try.ntmps31
  go_wp2_with fail
  refine wp_loop_rounds 2 ?_
  rw [rounds_succ]
  go_wp2_with fail
  refine alone_C.mono ?_
  rintro e w1 ⟨rfl, hb⟩
  have HL1 := Lib.hid ((LfAt.new w).below hb)
  have HB1 := Lib.hid ((lf_below w).trans (hb.mono (lf_below w).size))
  clear hb c0 c1 c2 c3 c4 c5
  obtain ⟨c0, c1, c2, c3, c4, c5⟩ := HL1.out.c6
  go_wp2_with fail
  refine end_C.mono ?_
  rintro e w2 ⟨rfl, hb⟩
  have HB2 := Lib.hid (HB1.out.trans (hb.mono HB1.out.size))
  clear hb HL1 HB1 c0 c1 c2 c3 c4 c5
  go_wp2_with fail
  rw [rounds_succ]
  go_wp2_with fail
  go_ret
  exact ⟨rfl, HB2.out⟩
/-- what is counted of each level -/
def NxAt (w : World) (N a b : Nat) : Prop := w.heap[N]? = some (.cells #[.int .u64 (a : Int), .int .u64 (b : Int)] 80 (0, 0))
theorem NxAt.lt {w : World} {N a b : Nat} (h : NxAt w N a b) : N < w.heap.size := (Array.getElem?_eq_some_iff.1 h).1
theorem NxAt.cells {w : World} {N a b : Nat} (h : NxAt w N a b) : w.cell? ⟨N, 0, none⟩ = some (.int .u64 (a : Int)) ∧ w.cell? ⟨N, 1, none⟩ = some (.int .u64 (b : Int)) := by
  have h' : w.heap[N]? = _ := h
  refine ⟨?_, ?_⟩ <;> simp [World.cell?, h']
theorem NxAt.free {w : World} {N a b : Nat} (h : NxAt w N a b) (p : Nat) : w.frozen? ⟨N, p, none⟩ = false := by
  have h' : w.heap[N]? = _ := h
  simp [World.frozen?, h']
theorem NxAt.below {w w' : World} {N a b : Nat} (h : NxAt w N a b) (hb : Below w.heap.size w w') : NxAt w' N a b := (hb.block N h.lt).trans h
theorem NxAt.set0 {w : World} {N a b : Nat} (h : NxAt w N a b) : NxAt (w.setCell ⟨N, 0, none⟩ (.int .u64 1)) N 1 b := by
  have h' : w.heap[N]? = _ := h
  unfold NxAt
  simp [World.setCell, Array.getElem?_modify, h']
theorem NxAt.set1 {w : World} {N a b : Nat} (h : NxAt w N a b) : NxAt (w.setCell ⟨N, 1, none⟩ (.int .u64 1)) N a 1 := by
  have h' : w.heap[N]? = _ := h
  unfold NxAt
  simp [World.setCell, Array.getElem?_modify, h']
set_option maxRecDepth 100000 in
set_option maxHeartbeats 4000000 in
theorem tables_nil {w : World} : Calls Try.prog 32 #[.slice none 0 0] w fun e w' => e = .returned (.int .i64 1) ∧ Below w.heap.size w w' := by
  go_enter Try.func32, Try.ntmps32
  go_wp2_with fail
  refine wp_loop_rounds 1 ?_
  rw [rounds_succ]
  go_wp2_with fail
  go_ret
  exact ⟨rfl, (Below.refl _ _).alloc (Nat.le_refl _) _⟩
set_option maxRecDepth 100000 in
set_option maxHeartbeats 4000000 in
theorem tables_C {w : World} {R : Nat} (h : Lf1 w R) : Calls Try.prog 32 #[.slice (some ⟨R, 0, none⟩) 1 1] w fun e w' => e = .returned (.int .i64 3) ∧ Below w.heap.size w w' := by
  have HLv : Hid (∀ W, Calls Try.prog 40 #[.bool false] W fun e w' => e = .returned (.int .i64 2) ∧ w' = W) := fun W => leafLevel_any false W
  have HT0 : Hid (∀ W, Calls Try.prog 41 #[.int .u64 12288, .int .i64 0] W fun e w' => e = .returned (.int .u64 0) ∧ w' = W) := fun W => through_any 12288 0 (by omega) W
  have HE0 : Hid (∀ W, Calls Try.prog 41 #[.int .u64 16383, .int .i64 0] W fun e w' => e = .returned (.int .u64 0) ∧ w' = W) := fun W => through_any 16383 0 (by omega) W
  have HT1 : Hid (∀ W, Calls Try.prog 41 #[.int .u64 12288, .int .i64 1] W fun e w' => e = .returned (.int .u64 0) ∧ w' = W) := fun W => through_any 12288 1 (by omega) W
  have HE1 : Hid (∀ W, Calls Try.prog 41 #[.int .u64 16383, .int .i64 1] W fun e w' => e = .returned (.int .u64 0) ∧ w' = W) := fun W => through_any 16383 1 (by omega) W
  have HA : Hid (Below w.heap.size w (w.alloc (.cells #[.int .u64 0, .int .u64 0] 80))) := (Below.refl _ _).alloc (Nat.le_refl _) _
  have HNa : Hid (NxAt (w.alloc (.cells #[.int .u64 0, .int .u64 0] 80)) w.heap.size 0 0) := heap_alloc_new w _
  obtain ⟨c0, c1, c2, c3, c4, c5⟩ := (h.below HA.out).2
  have HR := Lib.hid h
  have hwN : w.heap.size ≤ w.heap.size := Nat.le_refl _
  clear h
  go_enter Try.func32, Try.ntmps32
  go_wp2_with fail
  generalize (w.alloc (.cells #[.int .u64 0, .int .u64 0] 80)) = w0 at *
  have hX0 : w0.heap.size ≠ w.heap.size := Nat.ne_of_gt HNa.out.lt
  generalize hN : w.heap.size = N at *
  refine wp_loop_rounds 2 ?_
  rw [rounds_succ]
  go_wp2_with fail
  refine (HLv.out _).mono ?_
  rintro e w8 ⟨rfl, hw8⟩
  have hw8 := hw8.symm
  subst hw8
  have hB1 : Below N w (w0.alloc (.cells #[.int .u64 12288, .int .u64 32768, .int .i64 1, .bool false, .bool true, .bool false] 34)) := HA.out.trans ((lf_below w0).mono (by rw [← hN]; exact HA.out.size))
  have HL1 := Lib.hid (LfAt.new w0)
  have HN1 := Lib.hid (HNa.out.below (lf_below w0))
  have HB1 := Lib.hid hB1
  clear hB1 HNa HA HR c0 c1 c2 c3 c4 c5
  generalize (w0.alloc (.cells #[.int .u64 12288, .int .u64 32768, .int .i64 1, .bool false, .bool true, .bool false] 34)) = w1 at *
  generalize w0.heap.size = X at *
  have hXN : X ≠ N := hX0
  obtain ⟨c0, c1, c2, c3, c4, c5⟩ := HL1.out.c6
  go_wp2_with fail
  refine wp_loop_rounds 3 ?_
  clear c0 c1 c2 c3 c4 c5
  rw [rounds_succ]
  obtain ⟨c0, c1, c2, c3, c4, c5⟩ := HL1.out.c6
  obtain ⟨n0, n1⟩ := HN1.out.cells
  go_wp2_with fail
  go_region_held3 (fun w' => w'.cell? ⟨X, 0, none⟩ = some (.int .u64 12288) ∧ w'.cell? ⟨N, 0, none⟩ = some (.int .u64 0)) (go_keep) (first | (go_at_call 41; refine (HT0.out _).mono ?_; rintro e w9 ⟨rfl, hw9⟩; have hw9 := hw9.symm; subst hw9))
  have hd1 : LfAt w1.drew X lfC := HL1.out
  have hd2 : NxAt w1.drew N 0 0 := HN1.out
  have hd3 : Below N w w1.drew := HB1.out.drew
  have HL := Lib.hid hd1
  have HN := Lib.hid hd2
  have HB := Lib.hid hd3
  clear hd1 hd2 hd3 HL1 HN1 HB1 c0 c1 c2 c3 c4 c5 n0 n1
  generalize w1.drew = wd1 at *
  obtain ⟨c0, c1, c2, c3, c4, c5⟩ := HL.out.c6
  go_wp2_with fail
  refine end_C.mono ?_
  rintro e w2 ⟨rfl, hb⟩
  have HL2 := Lib.hid (HL.out.below hb)
  have HN2 := Lib.hid (HN.out.below hb)
  have HB2 := Lib.hid (HB.out.trans (hb.mono (Nat.le_trans (Nat.le_of_eq hN.symm) HB.out.size)))
  clear hb HL HN HB c0 c1 c2 c3 c4 c5
  obtain ⟨n0, n1⟩ := HN2.out.cells
  have f0 := HN2.out.free 0
  have f1 := HN2.out.free 1
  go_wp2_with fail
  refine (HE0.out _).mono ?_
  rintro e w3 ⟨rfl, hw9⟩
  have hw9 := hw9.symm
  subst hw9
  go_wp2_with fail
  have HL3 : Hid (LfAt (w2.setCell ⟨N, 0, none⟩ (.int .u64 1)) X lfC) := (Below.heap_setCell _ _ _ _ hXN).trans HL2.out
  have HN3 : Hid (NxAt (w2.setCell ⟨N, 0, none⟩ (.int .u64 1)) N 1 0) := HN2.out.set0
  have HB3 : Hid (Below N w (w2.setCell ⟨N, 0, none⟩ (.int .u64 1))) := HB2.out.setCell hwN _
  clear HL2 HN2 HB2 n0 n1 f0 f1
  generalize (w2.setCell ⟨N, 0, none⟩ (.int .u64 1)) = w3 at *
  rw [rounds_succ]
  obtain ⟨c0, c1, c2, c3, c4, c5⟩ := HL3.out.c6
  obtain ⟨n0, n1⟩ := HN3.out.cells
  go_wp2_with fail
  go_region_held3 (fun w' => w'.cell? ⟨X, 0, none⟩ = some (.int .u64 12288) ∧ w'.cell? ⟨N, 1, none⟩ = some (.int .u64 0)) (go_keep) (first | (go_at_call 41; refine (HT1.out _).mono ?_; rintro e w9 ⟨rfl, hw9⟩; have hw9 := hw9.symm; subst hw9))
  have hd1 : LfAt w3.drew X lfC := HL3.out
  have hd2 : NxAt w3.drew N 1 0 := HN3.out
  have hd3 : Below N w w3.drew := HB3.out.drew
  have HL := Lib.hid hd1
  have HN := Lib.hid hd2
  have HB := Lib.hid hd3
  clear hd1 hd2 hd3 HL3 HN3 HB3 c0 c1 c2 c3 c4 c5 n0 n1
  generalize w3.drew = wd3 at *
  obtain ⟨c0, c1, c2, c3, c4, c5⟩ := HL.out.c6
  go_wp2_with fail
  refine end_C.mono ?_
  rintro e w4 ⟨rfl, hb⟩
  have HL4 := Lib.hid (HL.out.below hb)
  have HN4 := Lib.hid (HN.out.below hb)
  have HB4 := Lib.hid (HB.out.trans (hb.mono (Nat.le_trans (Nat.le_of_eq hN.symm) HB.out.size)))
  clear hb HL HN HB c0 c1 c2 c3 c4 c5
  obtain ⟨n0, n1⟩ := HN4.out.cells
  have f0 := HN4.out.free 0
  have f1 := HN4.out.free 1
  go_wp2_with fail
  refine (HE1.out _).mono ?_
  rintro e w5 ⟨rfl, hw9⟩
  have hw9 := hw9.symm
  subst hw9
  go_wp2_with fail
  have HL5 : Hid (LfAt (w4.setCell ⟨N, 1, none⟩ (.int .u64 1)) X lfC) := (Below.heap_setCell _ _ _ _ hXN).trans HL4.out
  have HN5 : Hid (NxAt (w4.setCell ⟨N, 1, none⟩ (.int .u64 1)) N 1 1) := HN4.out.set1
  have HB5 : Hid (Below N w (w4.setCell ⟨N, 1, none⟩ (.int .u64 1))) := HB4.out.setCell hwN _
  clear HL4 HN4 HB4 n0 n1 f0 f1
  generalize (w4.setCell ⟨N, 1, none⟩ (.int .u64 1)) = w5 at *
  rw [rounds_succ]
  go_wp2_with fail
  rw [rounds_succ]
  go_wp2_with fail
  go_ret
  exact ⟨rfl, hN ▸ HB5.out⟩
set_option maxRecDepth 100000 in
set_option maxHeartbeats 4000000 in
theorem count_nil {w : World} : Calls Try.prog 16 #[.slice none 0 0] w fun e w' => e = .returned (.tuple #[.int .i64 1, .int .i64 0]) ∧ Below w.heap.size w w' := by
  go_enter Try.func16, Try.ntmps16
  go_wp2_with fail
  refine refusal_nil.mono ?_
  rintro e w1 ⟨rfl, hw⟩
  subst hw
  go_wp2_with fail
  refine tables_nil.mono ?_
  rintro e w2 ⟨rfl, hb⟩
  have HB := Lib.hid hb
  clear hb
  go_wp2_with fail
  go_ret2
  exact ⟨rfl, HB.out⟩
set_option maxRecDepth 100000 in
set_option maxHeartbeats 4000000 in
theorem count_C {w : World} {R : Nat} (h : Lf1 w R) : Calls Try.prog 16 #[.slice (some ⟨R, 0, none⟩) 1 1] w fun e w' => e = .returned (.tuple #[.int .i64 3, .int .i64 0]) ∧ Below w.heap.size w w' := by
  have HR := Lib.hid h
  clear h
  go_enter Try.func16, Try.ntmps16
  go_wp2_with fail
  refine (refusal_C HR.out).mono ?_
  rintro e w1 ⟨rfl, hb⟩
  have HB1 := Lib.hid hb
  clear hb
  go_wp2_with fail
  refine (tables_C (HR.out.below HB1.out)).mono ?_
  rintro e w2 ⟨rfl, hb⟩
  have HB := Lib.hid (HB1.out.trans (hb.mono HB1.out.size))
  clear hb
  go_wp2_with fail
  go_ret2
  exact ⟨rfl, HB.out⟩
end Go.Proofs.Ytgjamnhepbblhaa
