import Derived.Test.YtlplbbnicfeoaaaGreatPq10
import Derived.Test.YtlplbbnicfeoaaaGreatPq37
import Derived.Test.YtlplbbnicfeoaaaGreatPq45
/- Pages: walk answers what the rows say. Own work. -/
namespace Go.Proofs.YtlplbbnicfeoaaaGreat
open Go.RowKit Go.Maps Go.Proofs.YtlplbbnicfeoaaaGreat.Sp Wk
set_option linter.unusedVariables false
set_option linter.unusedSimpArgs false
/-- a machine that is new since w0, its memory M -/
def InM (w0 w : World) (m base n : Nat) (M : Nat → Nat) : Prop := ∃ B V T S, Mac w m B V T M (rs1 base n) [] 0 S 0 ∧ (∀ j, Mine m B V T j → w0.heap.size ≤ j) ∧ Below w0.heap.size w0 w
theorem NewM.inM {w0 w : World} {m base n k : Nat} {M : Nat → Nat} (h : NewM w0 w m base n M k) : InM w0 w m base n M := by
  obtain ⟨B, V, T, S, h1, h2, h3, h4⟩ := h
  exact ⟨B, V, T, S, h1, h3, h4⟩
theorem InM.below {w0 w w' : World} {m base n : Nat} {M : Nat → Nat} (h : InM w0 w m base n M) (hb : Below w.heap.size w w') : InM w0 w' m base n M := by
  obtain ⟨B, V, T, S, h1, h2, h3⟩ := h
  exact ⟨B, V, T, S, h1.below hb, h2, h3.trans (hb.mono h3.size)⟩
theorem InM.lt {w0 w : World} {m base n : Nat} {M : Nat → Nat} (h : InM w0 w m base n M) : m < w.heap.size := by
  obtain ⟨B, V, T, S, h1, _⟩ := h
  exact h1.lt
theorem InM.old {w0 w : World} {m base n : Nat} {M : Nat → Nat} (h : InM w0 w m base n M) : Below w0.heap.size w0 w := by
  obtain ⟨_, _, _, _, _, _, h3⟩ := h
  exact h3
theorem InM.trans {w0 w : World} {m base n : Nat} {M : Nat → Nat} {a : Nat} {acc : Int} (h : InM w0 w m base n M) (hb : base ≤ 18446744073709551615) (ha : a ≤ 18446744073709551615) (h42 : (adrF (rs1 base n ++ []) M base a acc).2 ≠ 42) : Calls Tryz.prog 19 #[MemV m, .int .u64 (base : Int), .int .u64 (a : Int), .int .i64 acc] w fun e w' => e = .returned (.tuple #[.int .u64 ((adrF (rs1 base n ++ []) M base a acc).1 : Int), FaultV (adrF (rs1 base n ++ []) M base a acc).2 (whyAt (adrF (rs1 base n ++ []) M base a acc).2 a : Int)]) ∧ Hid (InM w0 w' m base n M) ∧ Hid (Keeps (fun j => j = m) w w') := by
  obtain ⟨B, V, T, S, h1, h2, h3⟩ := h
  refine (translate_s h1 hb ha (by omega) h42).mono ?_
  rintro e w' ⟨rfl, hx, hq⟩
  exact ⟨rfl, ⟨B, V, T, S, hx.out, h2, h3.trans (hq.out.below h3.size (fun i _ e => by rw [e]; exact h2 m (.inl rfl)))⟩, hq⟩
set_option maxRecDepth 100000 in
set_option maxHeartbeats 8000000 in
theorem says_any {w0 w : World} {v : Value} {xs : List L6} {m base n a : Nat} (hy : whyF xs base = 0) (hn : tabsF 1 0 0 xs = n) (hv : Lv w0 v xs) (h : InM w0 w m base n (entM base (bldM xs base) (n * 512))) (ha : a ≤ 18446744073709551615) : Calls Tryz.prog 7 #[.pointer (some ⟨m, 0, none⟩), .int .u64 (base : Int), v, .int .u64 (a : Int)] w fun e w' => e = .returned (.bool true) ∧ InM w0 w' m base n (entM base (bldM xs base) (n * 512)) := by
  obtain ⟨hr, _, hn4, hb4, hbl⟩ := why_zero hy
  have HI := Lib.hid h
  have HA : Hid (Calls Tryz.prog 18 #[v, .int .u64 (a : Int)] w (AtP xs a w)) := rat_any (hv.below h.old) (refuF_all hr) ha
  have HN : Hid ((∀ x ∈ xs, ¬ HasA x a) → ∀ acc : Int, acc = 1 ∨ acc = 2 ∨ acc = 3 → adrF (rs1 base n ++ []) (entM base (bldM xs base) (n * 512)) base a acc = (0, if 549755813888 ≤ a then 40 else 41)) := fun hno acc hacc => by
    by_cases h9 : 549755813888 ≤ a
    · rw [if_pos h9, adr_hi (xs := xs) hacc _ h9]
    · rw [if_neg h9, adr_none hacc hy hn (by omega) hno]
  have HS : Hid (∀ x ∈ xs, HasA x a → a < 549755813888 ∧ ∀ acc : Int, acc = 1 ∨ acc = 2 ∨ acc = 3 → adrF (rs1 base n ++ []) (entM base (bldM xs base) (n * 512)) base a acc = sayN x a acc) := fun x hx hh => ⟨(leaf_some hy hn hx hh).1, fun acc hacc => adr_some hacc hy hn hx hh⟩
  have H42 : Hid (∀ acc : Int, acc = 1 ∨ acc = 2 ∨ acc = 3 → (adrF (rs1 base n ++ []) (entM base (bldM xs base) (n * 512)) base a acc).2 ≠ 42) := fun acc hacc => by
    by_cases hq : ∃ x ∈ xs, HasA x a
    · obtain ⟨x, hx, hh⟩ := hq
      rw [(HS.out x hx hh).2 acc hacc]
      unfold sayN
      split
      · decide
      · split
        · decide
        · show (0 : Int) ≠ 42
          decide
    · rw [HN.out (fun x hx hh => hq ⟨x, hx, hh⟩) acc hacc]
      show (if 549755813888 ≤ a then (40 : Int) else 41) ≠ 42
      split <;> decide
  generalize entM base (bldM xs base) (n * 512) = M at *
  have HT : Hid (∀ (W : World) (acc : Int), InM w0 W m base n M → (acc = 1 ∨ acc = 2 ∨ acc = 3) → Calls Tryz.prog 19 #[MemV m, .int .u64 (base : Int), .int .u64 (a : Int), .int .i64 acc] W fun e w' => e = .returned (.tuple #[.int .u64 ((adrF (rs1 base n ++ []) M base a acc).1 : Int), FaultV (adrF (rs1 base n ++ []) M base a acc).2 (whyAt (adrF (rs1 base n ++ []) M base a acc).2 a : Int)]) ∧ Hid (InM w0 w' m base n M) ∧ Hid (Keeps (fun j => j = m) W w')) := fun W acc hW hacc => hW.trans (by omega) ha (H42.out acc hacc)
  obtain ⟨ao, cap, rfl, h1, h2, h3, _⟩ := hv
  unfold maxLen at h2
  have hml := h.lt
  obtain ⟨F, hF⟩ : ∃ F : Int → Nat × Int, ∀ acc, adrF (rs1 base n ++ []) M base a acc = F acc := ⟨fun acc => adrF (rs1 base n ++ []) M base a acc, fun _ => rfl⟩
  simp only [hF] at HT HN HS
  obtain ⟨P, hP⟩ : ∃ P : Int → Int, ∀ acc, ((F acc).1 : Int) = P acc := ⟨fun acc => ((F acc).1 : Int), fun _ => rfl⟩
  obtain ⟨Wy, hWy⟩ : ∃ P : Int → Int, ∀ acc, (F acc).2 = P acc := ⟨fun acc => (F acc).2, fun _ => rfl⟩
  obtain ⟨Ad, hAd⟩ : ∃ P : Int → Int, ∀ acc, ((whyAt (F acc).2 a : Nat) : Int) = P acc := ⟨fun acc => ((whyAt (F acc).2 a : Nat) : Int), fun _ => rfl⟩
  unfold MemV FaultV at HT
  simp only [hAd] at HT
  simp only [hP, hWy] at HT
  have HN2 : Hid ((∀ x ∈ xs, ¬ HasA x a) → ∀ acc : Int, acc = 1 ∨ acc = 2 ∨ acc = 3 → P acc = 0 ∧ Wy acc = (if 549755813888 ≤ a then 40 else 41) ∧ Ad acc = (a : Int)) := fun hno acc hacc => by
    have e := HN.out hno acc hacc
    rw [← hP, ← hWy, ← hAd, e]
    refine ⟨rfl, rfl, ?_⟩
    show ((whyAt (if 549755813888 ≤ a then 40 else 41) a : Nat) : Int) = _
    unfold whyAt
    rw [if_neg (by split <;> decide)]
  have HS2 : Hid (∀ x ∈ xs, HasA x a → a < 549755813888 ∧ ∀ acc : Int, acc = 1 ∨ acc = 2 ∨ acc = 3 → ((acc = 2 ∧ x.wr = false) → P acc = 0 ∧ Wy acc = 43 ∧ Ad acc = (a : Int)) ∧ ((acc = 3 ∧ x.ex = false) → P acc = 0 ∧ Wy acc = 44 ∧ Ad acc = (a : Int)) ∧ (¬ (acc = 2 ∧ x.wr = false) → ¬ (acc = 3 ∧ x.ex = false) → P acc = ((x.p + (a - x.v) : Nat) : Int) ∧ Wy acc = 0 ∧ Ad acc = 0)) := fun x hx hh => by
    obtain ⟨g1, g2⟩ := HS.out x hx hh
    refine ⟨g1, fun acc hacc => ?_⟩
    have e := g2 acc hacc
    rw [← hP, ← hWy, ← hAd, e]
    unfold sayN
    refine ⟨fun q => ?_, fun q => ?_, fun q1 q2 => ?_⟩
    · rw [if_pos q]; exact ⟨rfl, rfl, rfl⟩
    · rw [if_neg (by omega), if_pos q]; exact ⟨rfl, rfl, rfl⟩
    · rw [if_neg q1, if_neg q2]; exact ⟨rfl, rfl, rfl⟩
  clear hF hP hWy hAd HN HS h hr hy hn h3 hn4 hb4 hbl
  go_enter Tryz.func7, Tryz.ntmps7
  go_wp2_with fail
  refine HA.out.mono ?_
  rintro e w1 ⟨hb1, h1⟩
  have HI1 := Lib.hid (HI.out.below hb1)
  have hs1 := hb1.size
  clear HI HA hb1
  rcases h1 with ⟨x, hx, hh, rfl⟩ | ⟨hno, rfl⟩
  · obtain ⟨g1, g3⟩ := HS2.out x hx hh
    have G2 := g3 2 (by omega)
    have G1 := g3 1 (by omega)
    have G3 := g3 3 (by omega)
    clear g3 HS2 HN2 hx hh
    obtain ⟨xv, xp, xn, xb, xw, xe⟩ := x
    obtain ⟨ph, hph⟩ : ∃ ph : Nat, xp + (a - xv) = ph := ⟨_, rfl⟩
    simp only [hph] at G1 G2 G3
    have G1 := G1.2.2 (by omega) (by omega)
    have G2a := G2.1
    have G2b := G2.2.2
    have G3a := G3.2.1
    have G3b := G3.2.2
    clear G2 G3
    simp only [hph]
    obtain ⟨ai, hai⟩ : ∃ ai : Int, (a : Int) = ai := ⟨_, rfl⟩
    have g1' : ¬ 549755813888 ≤ ai := by omega
    rw [hai] at HT G2a G3a ⊢
    clear g1 hai hph ha
    unfold V6
    have HL0 : Hid (LfAt (w1.alloc (.cells #[.int .u64 (xv : Int), .int .u64 (xp : Int), .int .i64 xn, .bool xb, .bool xw, .bool xe] 26)) w1.heap.size ⟨xv, xp, xn, xb, xw, xe⟩) := heap_alloc_new w1 _
    have HI2 : Hid (InM w0 (w1.alloc (.cells #[.int .u64 (xv : Int), .int .u64 (xp : Int), .int .i64 xn, .bool xb, .bool xw, .bool xe] 26)) m base n M) := HI1.out.below ((Below.refl _ _).alloc (Nat.le_refl _) _)
    have hmX : w1.heap.size ≠ m := by omega
    go_wp2_with fail
    generalize (w1.alloc (.cells #[.int .u64 (xv : Int), .int .u64 (xp : Int), .int .i64 xn, .bool xb, .bool xw, .bool xe] 26)) = w2 at *
    generalize w1.heap.size = X at *
    clear HI1
    go_loopw [12] (fun cv wr => ∃ (c : Nat), 1 ≤ c ∧ c ≤ 4 ∧ cv = .int .i64 (c : Int) ∧ Hid (InM w0 wr m base n M) ∧ Hid (LfAt wr X ⟨xv, xp, xn, xb, xw, xe⟩)) (fun cv _ => 4 - (intOf cv).toNat)
    case atStart => exact ⟨1, by omega, by omega, rfl, HI2, HL0⟩
    case round =>
      clear HI2 HL0
      obtain ⟨c, hc1, hc4, rfl, HIr, HLr⟩ := hrel
      rcases (show c = 1 ∨ c = 2 ∨ c = 3 ∨ c = 4 by omega) with rfl | rfl | rfl | rfl
      · have HT1 := Lib.hid (HT.out wr 1 HIr.out (by omega))
        rw [(G1).1, (G1).2.1, (G1).2.2] at HT1
        clear G1 G2a G2b G3a G3b HT HIr
        go_wp2_with fail
        refine HT1.out.mono ?_
        rintro e w3 ⟨rfl, HI3, HK3⟩
        have HL3 := Lib.hid (HLr.out.keeps HK3.out hmX)
        have HF4 : Hid (BoxF (w3.alloc (Obj.cells #[.int .i64 0, .int .u64 0] 57)) w3.heap.size 0 0) := BoxF.new w3 _ _
        have HL4 : Hid (LfAt (w3.alloc (Obj.cells #[.int .i64 0, .int .u64 0] 57)) X ⟨xv, xp, xn, xb, xw, xe⟩) := HL3.out.below ((Below.refl _ _).alloc (Nat.le_refl _) _)
        have HI4 : Hid (InM w0 (w3.alloc (Obj.cells #[.int .i64 0, .int .u64 0] 57)) m base n M) := HI3.out.below ((Below.refl _ _).alloc (Nat.le_refl _) _)
        have hX1 : X < w3.heap.size := HL3.out.lt
        have hX2 : X ≠ w3.heap.size := by omega
        have hX3 : w3.heap.size ≠ X := by omega
        clear HT1 HK3 HLr HL3 HI3
        obtain ⟨y0, y1, _, _⟩ := HF4.out.cells
        obtain ⟨x0, x1, x2, x3, x4, x5⟩ := HL4.out.cells
        simp only at x4 x5
        go_upto_region 6 with fail
        generalize (w3.alloc (Obj.cells #[.int .i64 0, .int .u64 0] 57)) = w4 at *
        generalize w3.heap.size = Y at *
        go_wp2_with fail
        go_roundw
        case rel => exact ⟨1 + 1, by omega, by omega, rfl, HI4, HL4⟩
        case measure => simp [intOf]
      · cases xw with
        | false =>
          have G2 := G2a (by simp)
          have HT1 := Lib.hid (HT.out wr 2 HIr.out (by omega))
          rw [(G2).1, (G2).2.1, (G2).2.2] at HT1
          clear G1 G2 G2a G2b G3a G3b HT HIr
          go_wp2_with fail
          refine HT1.out.mono ?_
          rintro e w3 ⟨rfl, HI3, HK3⟩
          have HL3 := Lib.hid (HLr.out.keeps HK3.out hmX)
          have HF4 : Hid (BoxF (w3.alloc (Obj.cells #[.int .i64 43, .int .u64 ai] 57)) w3.heap.size 43 ai) := BoxF.new w3 _ _
          have HL4 : Hid (LfAt (w3.alloc (Obj.cells #[.int .i64 43, .int .u64 ai] 57)) X ⟨xv, xp, xn, xb, false, xe⟩) := HL3.out.below ((Below.refl _ _).alloc (Nat.le_refl _) _)
          have HI4 : Hid (InM w0 (w3.alloc (Obj.cells #[.int .i64 43, .int .u64 ai] 57)) m base n M) := HI3.out.below ((Below.refl _ _).alloc (Nat.le_refl _) _)
          have hX1 : X < w3.heap.size := HL3.out.lt
          have hX2 : X ≠ w3.heap.size := by omega
          have hX3 : w3.heap.size ≠ X := by omega
          clear HT1 HK3 HLr HL3 HI3
          obtain ⟨y0, y1, _, _⟩ := HF4.out.cells
          obtain ⟨x0, x1, x2, x3, x4, x5⟩ := HL4.out.cells
          simp only at x4 x5
          go_upto_region 6 with fail
          generalize (w3.alloc (Obj.cells #[.int .i64 43, .int .u64 ai] 57)) = w4 at *
          generalize w3.heap.size = Y at *
          go_wp2_with fail
          go_roundw
          case rel => exact ⟨2 + 1, by omega, by omega, rfl, HI4, HL4⟩
          case measure => simp [intOf]
        | true =>
          have G2 := G2b (by simp) (by simp)
          have HT1 := Lib.hid (HT.out wr 2 HIr.out (by omega))
          rw [(G2).1, (G2).2.1, (G2).2.2] at HT1
          clear G1 G2 G2a G2b G3a G3b HT HIr
          go_wp2_with fail
          refine HT1.out.mono ?_
          rintro e w3 ⟨rfl, HI3, HK3⟩
          have HL3 := Lib.hid (HLr.out.keeps HK3.out hmX)
          have HF4 : Hid (BoxF (w3.alloc (Obj.cells #[.int .i64 0, .int .u64 0] 57)) w3.heap.size 0 0) := BoxF.new w3 _ _
          have HL4 : Hid (LfAt (w3.alloc (Obj.cells #[.int .i64 0, .int .u64 0] 57)) X ⟨xv, xp, xn, xb, true, xe⟩) := HL3.out.below ((Below.refl _ _).alloc (Nat.le_refl _) _)
          have HI4 : Hid (InM w0 (w3.alloc (Obj.cells #[.int .i64 0, .int .u64 0] 57)) m base n M) := HI3.out.below ((Below.refl _ _).alloc (Nat.le_refl _) _)
          have hX1 : X < w3.heap.size := HL3.out.lt
          have hX2 : X ≠ w3.heap.size := by omega
          have hX3 : w3.heap.size ≠ X := by omega
          clear HT1 HK3 HLr HL3 HI3
          obtain ⟨y0, y1, _, _⟩ := HF4.out.cells
          obtain ⟨x0, x1, x2, x3, x4, x5⟩ := HL4.out.cells
          simp only at x4 x5
          go_upto_region 6 with fail
          generalize (w3.alloc (Obj.cells #[.int .i64 0, .int .u64 0] 57)) = w4 at *
          generalize w3.heap.size = Y at *
          go_wp2_with fail
          go_roundw
          case rel => exact ⟨2 + 1, by omega, by omega, rfl, HI4, HL4⟩
          case measure => simp [intOf]
      · cases xe with
        | false =>
          have G3 := G3a (by simp)
          have HT1 := Lib.hid (HT.out wr 3 HIr.out (by omega))
          rw [(G3).1, (G3).2.1, (G3).2.2] at HT1
          clear G1 G3 G2a G2b G3a G3b HT HIr
          go_wp2_with fail
          refine HT1.out.mono ?_
          rintro e w3 ⟨rfl, HI3, HK3⟩
          have HL3 := Lib.hid (HLr.out.keeps HK3.out hmX)
          have HF4 : Hid (BoxF (w3.alloc (Obj.cells #[.int .i64 44, .int .u64 ai] 57)) w3.heap.size 44 ai) := BoxF.new w3 _ _
          have HL4 : Hid (LfAt (w3.alloc (Obj.cells #[.int .i64 44, .int .u64 ai] 57)) X ⟨xv, xp, xn, xb, xw, false⟩) := HL3.out.below ((Below.refl _ _).alloc (Nat.le_refl _) _)
          have HI4 : Hid (InM w0 (w3.alloc (Obj.cells #[.int .i64 44, .int .u64 ai] 57)) m base n M) := HI3.out.below ((Below.refl _ _).alloc (Nat.le_refl _) _)
          have hX1 : X < w3.heap.size := HL3.out.lt
          have hX2 : X ≠ w3.heap.size := by omega
          have hX3 : w3.heap.size ≠ X := by omega
          clear HT1 HK3 HLr HL3 HI3
          obtain ⟨y0, y1, _, _⟩ := HF4.out.cells
          obtain ⟨x0, x1, x2, x3, x4, x5⟩ := HL4.out.cells
          simp only at x4 x5
          go_upto_region 6 with fail
          generalize (w3.alloc (Obj.cells #[.int .i64 44, .int .u64 ai] 57)) = w4 at *
          generalize w3.heap.size = Y at *
          go_wp2_with fail
          go_roundw
          case rel => exact ⟨3 + 1, by omega, by omega, rfl, HI4, HL4⟩
          case measure => simp [intOf]
        | true =>
          have G3 := G3b (by simp) (by simp)
          have HT1 := Lib.hid (HT.out wr 3 HIr.out (by omega))
          rw [(G3).1, (G3).2.1, (G3).2.2] at HT1
          clear G1 G3 G2a G2b G3a G3b HT HIr
          go_wp2_with fail
          refine HT1.out.mono ?_
          rintro e w3 ⟨rfl, HI3, HK3⟩
          have HL3 := Lib.hid (HLr.out.keeps HK3.out hmX)
          have HF4 : Hid (BoxF (w3.alloc (Obj.cells #[.int .i64 0, .int .u64 0] 57)) w3.heap.size 0 0) := BoxF.new w3 _ _
          have HL4 : Hid (LfAt (w3.alloc (Obj.cells #[.int .i64 0, .int .u64 0] 57)) X ⟨xv, xp, xn, xb, xw, true⟩) := HL3.out.below ((Below.refl _ _).alloc (Nat.le_refl _) _)
          have HI4 : Hid (InM w0 (w3.alloc (Obj.cells #[.int .i64 0, .int .u64 0] 57)) m base n M) := HI3.out.below ((Below.refl _ _).alloc (Nat.le_refl _) _)
          have hX1 : X < w3.heap.size := HL3.out.lt
          have hX2 : X ≠ w3.heap.size := by omega
          have hX3 : w3.heap.size ≠ X := by omega
          clear HT1 HK3 HLr HL3 HI3
          obtain ⟨y0, y1, _, _⟩ := HF4.out.cells
          obtain ⟨x0, x1, x2, x3, x4, x5⟩ := HL4.out.cells
          simp only at x4 x5
          go_upto_region 6 with fail
          generalize (w3.alloc (Obj.cells #[.int .i64 0, .int .u64 0] 57)) = w4 at *
          generalize w3.heap.size = Y at *
          go_wp2_with fail
          go_roundw
          case rel => exact ⟨3 + 1, by omega, by omega, rfl, HI4, HL4⟩
          case measure => simp [intOf]
      · go_wp2_with fail
        go_ret
        exact ⟨rfl, HIr.out⟩
  · have g3 := HN2.out hno
    clear HS2 HN2 hno
    obtain ⟨ai, hai⟩ : ∃ ai : Int, (a : Int) = ai := ⟨_, rfl⟩
    rw [hai] at HT g3 ⊢
    have HL0 : Hid (LfAt (w1.alloc (.cells #[.int .u64 0, .int .u64 0, .int .i64 0, .bool false, .bool false, .bool false] 26)) w1.heap.size lf0) := heap_alloc_new w1 _
    have HI2 : Hid (InM w0 (w1.alloc (.cells #[.int .u64 0, .int .u64 0, .int .i64 0, .bool false, .bool false, .bool false] 26)) m base n M) := HI1.out.below ((Below.refl _ _).alloc (Nat.le_refl _) _)
    have hmX : w1.heap.size ≠ m := by omega
    unfold V6 lf0
    simp only [Int.ofNat_zero, Int.natCast_zero, Int.cast_ofNat_Int]
    by_cases h9 : 549755813888 ≤ a
    · have g1' :  549755813888 ≤ ai := by omega
      have G : ∀ acc : Int, acc = 1 ∨ acc = 2 ∨ acc = 3 → P acc = 0 ∧ Wy acc = 40 ∧ Ad acc = ai := fun acc hacc => by
        have := g3 acc hacc
        rw [if_pos h9] at this
        exact this
      clear g3 h9 hai ha
      go_wp2_with fail
      generalize (w1.alloc (.cells #[.int .u64 0, .int .u64 0, .int .i64 0, .bool false, .bool false, .bool false] 26)) = w2 at *
      generalize w1.heap.size = X at *
      clear HI1
      go_loopw [12] (fun cv wr => ∃ (c : Nat), 1 ≤ c ∧ c ≤ 4 ∧ cv = .int .i64 (c : Int) ∧ Hid (InM w0 wr m base n M) ∧ Hid (LfAt wr X lf0)) (fun cv _ => 4 - (intOf cv).toNat)
      case atStart => exact ⟨1, by omega, by omega, rfl, HI2, HL0⟩
      case round =>
        clear HI2 HL0
        obtain ⟨c, hc1, hc4, rfl, HIr, HLr⟩ := hrel
        by_cases hc3 : c ≤ 3
        · have jc : (c : Int) ≤ 3 := by omega
          have wc : IntKind.i64.wrap ((c : Int) + 1) = ((c + 1 : Nat) : Int) := by rw [IntKind.wrap_i64]; omega
          have HT1 := Lib.hid (HT.out wr (c : Int) HIr.out (by omega))
          obtain ⟨q1, q2, q3⟩ := G (c : Int) (by omega)
          rw [q1, q2, q3] at HT1
          clear G HT HIr q1 q2 q3
          go_wp2_with fail
          refine HT1.out.mono ?_
          rintro e w3 ⟨rfl, HI3, HK3⟩
          have HL3 := Lib.hid (HLr.out.keeps HK3.out hmX)
          have HF4 : Hid (BoxF (w3.alloc (Obj.cells #[.int .i64 40, .int .u64 ai] 57)) w3.heap.size 40 ai) := BoxF.new w3 _ _
          have HL4 : Hid (LfAt (w3.alloc (Obj.cells #[.int .i64 40, .int .u64 ai] 57)) X lf0) := HL3.out.below ((Below.refl _ _).alloc (Nat.le_refl _) _)
          have HI4 : Hid (InM w0 (w3.alloc (Obj.cells #[.int .i64 40, .int .u64 ai] 57)) m base n M) := HI3.out.below ((Below.refl _ _).alloc (Nat.le_refl _) _)
          have hX1 : X < w3.heap.size := HL3.out.lt
          have hX2 : X ≠ w3.heap.size := by omega
          have hX3 : w3.heap.size ≠ X := by omega
          clear HT1 HK3 HLr HL3 HI3
          obtain ⟨y0, y1, _, _⟩ := HF4.out.cells
          obtain ⟨x0, x1, x2, x3, x4, x5⟩ := HL4.out.cells
          go_upto_region 6 with fail
          generalize (w3.alloc (Obj.cells #[.int .i64 40, .int .u64 ai] 57)) = w4 at *
          generalize w3.heap.size = Y at *
          go_wp2_with fail
          go_roundw
          case rel => exact ⟨c + 1, by omega, by omega, rfl, HI4, HL4⟩
          case measure => simp [intOf]; omega
        · have hc : c = 4 := by omega
          subst hc
          go_wp2_with fail
          go_ret
          exact ⟨rfl, HIr.out⟩
    · have g1' : ¬ 549755813888 ≤ ai := by omega
      have G : ∀ acc : Int, acc = 1 ∨ acc = 2 ∨ acc = 3 → P acc = 0 ∧ Wy acc = 41 ∧ Ad acc = ai := fun acc hacc => by
        have := g3 acc hacc
        rw [if_neg h9] at this
        exact this
      clear g3 h9 hai ha
      go_wp2_with fail
      generalize (w1.alloc (.cells #[.int .u64 0, .int .u64 0, .int .i64 0, .bool false, .bool false, .bool false] 26)) = w2 at *
      generalize w1.heap.size = X at *
      clear HI1
      go_loopw [12] (fun cv wr => ∃ (c : Nat), 1 ≤ c ∧ c ≤ 4 ∧ cv = .int .i64 (c : Int) ∧ Hid (InM w0 wr m base n M) ∧ Hid (LfAt wr X lf0)) (fun cv _ => 4 - (intOf cv).toNat)
      case atStart => exact ⟨1, by omega, by omega, rfl, HI2, HL0⟩
      case round =>
        clear HI2 HL0
        obtain ⟨c, hc1, hc4, rfl, HIr, HLr⟩ := hrel
        by_cases hc3 : c ≤ 3
        · have jc : (c : Int) ≤ 3 := by omega
          have wc : IntKind.i64.wrap ((c : Int) + 1) = ((c + 1 : Nat) : Int) := by rw [IntKind.wrap_i64]; omega
          have HT1 := Lib.hid (HT.out wr (c : Int) HIr.out (by omega))
          obtain ⟨q1, q2, q3⟩ := G (c : Int) (by omega)
          rw [q1, q2, q3] at HT1
          clear G HT HIr q1 q2 q3
          go_wp2_with fail
          refine HT1.out.mono ?_
          rintro e w3 ⟨rfl, HI3, HK3⟩
          have HL3 := Lib.hid (HLr.out.keeps HK3.out hmX)
          have HF4 : Hid (BoxF (w3.alloc (Obj.cells #[.int .i64 41, .int .u64 ai] 57)) w3.heap.size 41 ai) := BoxF.new w3 _ _
          have HL4 : Hid (LfAt (w3.alloc (Obj.cells #[.int .i64 41, .int .u64 ai] 57)) X lf0) := HL3.out.below ((Below.refl _ _).alloc (Nat.le_refl _) _)
          have HI4 : Hid (InM w0 (w3.alloc (Obj.cells #[.int .i64 41, .int .u64 ai] 57)) m base n M) := HI3.out.below ((Below.refl _ _).alloc (Nat.le_refl _) _)
          have hX1 : X < w3.heap.size := HL3.out.lt
          have hX2 : X ≠ w3.heap.size := by omega
          have hX3 : w3.heap.size ≠ X := by omega
          clear HT1 HK3 HLr HL3 HI3
          obtain ⟨y0, y1, _, _⟩ := HF4.out.cells
          obtain ⟨x0, x1, x2, x3, x4, x5⟩ := HL4.out.cells
          go_upto_region 6 with fail
          generalize (w3.alloc (Obj.cells #[.int .i64 41, .int .u64 ai] 57)) = w4 at *
          generalize w3.heap.size = Y at *
          go_wp2_with fail
          go_roundw
          case rel => exact ⟨c + 1, by omega, by omega, rfl, HI4, HL4⟩
          case measure => simp [intOf]; omega
        · have hc : c = 4 := by omega
          subst hc
          go_wp2_with fail
          go_ret
          exact ⟨rfl, HIr.out⟩
end Go.Proofs.YtlplbbnicfeoaaaGreat
