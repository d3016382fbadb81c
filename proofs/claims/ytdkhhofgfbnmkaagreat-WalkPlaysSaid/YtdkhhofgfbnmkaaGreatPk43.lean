import Derived.Test.YtdkhhofgfbnmkaaGreatPk42
import Derived.Test.YtdkhhofgfbnmkaaGreatPk15
import Derived.Test.YtdkhhofgfbnmkaaGreatPk31
import Derived.Handy
import Derived.Test.YtdkhhofgfbnmkaaGreatPk28
import Derived.Deep.RegionHeld3
/- The document's own Store through tables. Own work. -/
namespace Go.Proofs.YtdkhhofgfbnmkaaGreat
open Go.RowKit Go.Maps Go.Proofs.YtdkhhofgfbnmkaaGreat.Sp Wk Lv
/-- what holds while the bytes are stored -/
structure SI (w0 w : World) (base v gf gr : Nat) (vr vd : Value) (M : Nat → Nat) (L S X : Nat) (k a : Int) (vl : Value) (b0 : Nat) (xs : List Nat) (W : World) : Prop where
  below : Below w0.heap.size w0 W
  keeps : Kv base w W
  mac : ∃ vp ps, RM W base v vr vd vp ps M L S X
  zero : BoxG W gf 0 0
  fault : BoxG W gr k a
  row : OwnA W b0 vl xs
theorem boxG_notVB {w : World} {base g : Nat} {x y : Int} (h : BoxG w g x y) : ∀ j, VB base w j → ¬ j = g := by
  rintro j ⟨_, c, t, fr, hc, ht⟩ rfl
  rw [show w.heap[j]? = _ from h] at hc
  cases hc
  rcases ht with ht | ht | ht <;> cases ht
theorem ownA_notVB {w : World} {base b : Nat} {vl : Value} {xs : List Nat} (h : OwnA w b vl xs) : ∀ j, VB base w j → ¬ vl.ownBlock = some j := by
  rintro j ⟨_, c, t, fr, hc, ht⟩ e
  obtain ⟨_, cur, h2⟩ := h.tag e
  rw [h2] at hc
  cases hc
  rcases ht with ht | ht | ht <;> cases ht
theorem SI.step {w0 w : World} {base v gf gr : Nat} {vr vd : Value} {M M' : Nat → Nat} {L S X S' : Nat} {k a : Int} {vl : Value} {b0 : Nat} {xs : List Nat} {W W' : World} (h : SI w0 w base v gf gr vr vd M L S X k a vl b0 xs W) (hb : w0.heap.size ≤ base) (hk : Kv base W W') (hm : ∃ vp ps, RM W' base v vr vd vp ps M' L S' X) : SI w0 w base v gf gr vr vd M' L S' X k a vl b0 xs W' :=
  ⟨below_keeps h.below hk (fun _ e => Nat.le_trans hb e.1), h.keeps.trans hk, hm, h.zero.keeps hk (fun e => boxG_notVB h.zero _ e rfl), h.fault.keeps hk (fun e => boxG_notVB h.fault _ e rfl), h.row.keeps hk (fun _ e e' => ownA_notVB h.row _ e' e)⟩
theorem le_take1 {z : Nat} (h : z < 256) : (Pl.le 8 z).take 1 = [z] := by
  show [z % 256] = [z]
  rw [Nat.mod_eq_of_lt h]
/-- what the document's Store answers -/
def StP4 (w : World) (base v : Nat) (vr vd : Value) (M : Nat → Nat) (LL : List Sp) (L S X t vi val k : Nat) (e : Ending) (w' : World) : Prop :=
  Kv base w w' ∧ ((∃ why x, reachF LL M t vi 2 k = some (why, x) ∧ e = .returned (.agg #[.int .i64 why, .int .u64 (x : Int)]) ∧ ∃ vp ps, RM w' base v vr vd vp ps M L S X) ∨ (reachF LL M t vi 2 k = none ∧ e = .returned (.agg #[.int .i64 0, .int .u64 0]) ∧ ∃ vp ps, RM w' base v vr vd vp ps (stM LL M t vi val k) L (S + k) X))
set_option maxRecDepth 100000 in
set_option maxHeartbeats 4000000 in
theorem rst_of {w0 w : World} {base v : Nat} {vr vd vp : Value} {ps : List (Int × Nat)} {M : Nat → Nat} {L S X : Nat} {rs ds : List Sp} {t vi val k : Nat} (h : RM w base v vr vd vp ps M L S X) (hb0 : Below w0.heap.size w0 w) (hbs : w0.heap.size ≤ base) (hbw : base ≤ w.heap.size) (hv0 : w0.heap.size ≤ v) (hvs : v < w.heap.size) (hr : U64.SV w0 vr rs) (hd : U64.SV w0 vd ds) (hs : Sane (rs ++ ds)) (hll : rs.length + ds.length ≤ 64) (hX : X ≤ 4611686018427387904) (hS : S ≤ 4611686018427387000) (ht : t ≤ 18446744073709551615) (hval : val ≤ 18446744073709551615) (hk : Wide k) :
    Calls Tryz.prog 25 #[.pointer (some ⟨v, 0, none⟩), .int .u64 (t : Int), .int .u64 (vi : Int), .int .i64 (k : Int), .int .u64 (val : Int)] w (StP4 w base v vr vd M (rs ++ ds) L S X t vi val k) := by
  obtain ⟨W1, hW1⟩ : ∃ W1, w.alloc (Obj.cells #[.int .i64 0, .int .u64 0] 41) = W1 := ⟨_, rfl⟩
  have HB1 : Hid (Below w.heap.size w W1) := hW1 ▸ (Below.refl _ w).alloc (Nat.le_refl _) _
  have HG1 : Hid (BoxG W1 w.heap.size 0 0) := hW1 ▸ BoxG.new w 0 0
  have hs1 : W1.heap.size = w.heap.size + 1 := by rw [← hW1]; simp
  have HBs := Lib.hid (rbytes_of (w0 := w0) (rs := rs) (ds := ds) (t := t) (vi := vi) (k := k) (acc := 2) (h.below HB1.out) (hb0.trans (HB1.out.mono hb0.size)) hv0 (by omega) hr hd hs hll hX ht hk)
  have HVB : Hid (VB base w v) := ⟨h.1, _, _, _, h.2.1, .inl rfl⟩
  have HSt : Hid (∀ W gf gr (c a : Int) vl b0 xs (q p z : Nat) M', q ≤ 4611686018427387904 → p ≤ 18446744073709551615 → On (rs ++ ds) (p : Int) → base ≤ W.heap.size → SI w0 w base v gf gr vr vd M' L q X c a vl b0 xs W → Calls Tryz.prog 11 #[.pointer (some ⟨v, 0, none⟩), .int .u64 (p : Int), .int .i64 1, .int .u64 (z : Int)] W fun e w' => (∃ y, e = .returned y) ∧ SI w0 w base v gf gr vr vd (putAt M' p ((Pl.le 8 z).take 1)) L (q + 1) X c a vl b0 xs w') := fun W gf gr c a vl b0 xs q p z M' hq hp ho hbW hI => by
    obtain ⟨vp', ps', hm'⟩ := hI.mac
    refine (rstore_at (n := 1) hm' (.inl rfl) hbW (hr.below hI.below (Nat.le_refl _)) (hd.below hI.below (Nat.le_refl _)) hs hll hp hX hq).mono ?_
    rintro e w' ⟨x, b, hof, rfl, hkk, _, hb2⟩
    cases b with
    | true =>
      obtain ⟨i, hi, _, _, hn, _⟩ := hof.1 rfl
      obtain rfl : i = 0 := by omega
      exact absurd (by simpa using ho) hn
    | false => exact ⟨⟨_, rfl⟩, hI.step hbs hkk (hb2 rfl)⟩
  have HW0 := Lib.hid hb0
  have hk1 : k ≤ 8 ∧ 1 ≤ k := by rcases hk with rfl | rfl | rfl | rfl <;> omega
  clear h hr hd hs hll hX hb0 hk
  generalize rs ++ ds = LL at *
  go_enter Tryz.func25, Tryz.ntmps25
  go_wp2_with fail
  refine HBs.out.mono ?_
  rintro e w2 ⟨hm2, hk2, hc⟩
  have HMk : Hid (∀ (K A : Int) vl xs, OwnA w2 (W1.heap.size + 1) vl xs → SI w0 w base v w.heap.size w2.heap.size vr vd M L S X K A vl (W1.heap.size + 1) xs (w2.alloc (Obj.cells #[.int .i64 K, .int .u64 A] 41))) := fun K A vl xs ho => by
    have hb : Below w2.heap.size w2 (w2.alloc (Obj.cells #[.int .i64 K, .int .u64 A] 41)) := (Below.refl _ _).alloc (Nat.le_refl _) _
    have hb1 : Below w0.heap.size w0 w2 := below_keeps (HW0.out.trans (HB1.out.mono HW0.out.size)) hk2 (fun j e => by rw [e]; exact hv0)
    have hkk : Keeps (fun j => j = v) w (w2.alloc (Obj.cells #[.int .i64 K, .int .u64 A] 41)) := ((Keeps.of_below (S := fun j => j = v) HB1.out).trans hk2 (fun _ _ e => e)).trans (Keeps.of_below (S := fun _ => False) hb) (fun _ _ e => e.elim)
    exact ⟨hb1.trans (hb.mono hb1.size), Kv.of hkk (fun j _ e => by rw [show j = v from e]; exact HVB.out), ⟨_, _, hm2.below hb⟩, (HG1.out.keeps hk2 (by omega)).below hb, BoxG.new w2 K A, ho.below hb⟩
  have hz2 : w.heap.size + 1 ≤ w2.heap.size := by rw [← hs1]; exact hk2.size
  have HS1 := Lib.hid hs1
  have HEnd : Hid (∀ q M' (K A : Int) vl xs W, SI w0 w base v w.heap.size w2.heap.size vr vd M' L q X K A vl (W1.heap.size + 1) xs W → (∃ vp ps, RM ((W.setCell ⟨w.heap.size, 0, none⟩ (.int .i64 K)).setCell ⟨w.heap.size, 1, none⟩ (.int .u64 A)) base v vr vd vp ps M' L q X) ∧ Kv base w ((W.setCell ⟨w.heap.size, 0, none⟩ (.int .i64 K)).setCell ⟨w.heap.size, 1, none⟩ (.int .u64 A))) := fun q M' K A vl xs W hI => by
    have hk := Keeps.two W w.heap.size (.int .i64 K) (.int .u64 A)
    obtain ⟨vp', ps', hm'⟩ := hI.mac
    exact ⟨⟨vp', ps', hm'.keeps hk (boxG_notVB hI.zero)⟩, Keeps.trans hI.keeps hk (fun j hj e => by omega)⟩
  rcases hc with ⟨why, x, hre, rfl⟩ | ⟨hre, hall, vl, rfl, hown⟩
  · have HRe := Lib.hid hre
    have HI3 := Lib.hid (HMk.out why (x : Int) (.slice none 0 0) [] (OwnA.nil _ _))
    clear hm2 hk2 hre HMk HBs HSt hW1 HB1 HG1 hs1 HVB
    go_upto_region 2 with fail
    obtain ⟨W3, hW3⟩ : ∃ W3, w2.alloc (Obj.cells #[.int .i64 why, .int .u64 (x : Int)] 41) = W3 := ⟨_, rfl⟩
    rw [hW3] at HI3 ⊢
    clear hW3
    obtain ⟨g0, g1, _, _⟩ := HI3.out.fault.cells
    obtain ⟨q0, q1, q2, q3⟩ := HI3.out.zero.cells
    obtain ⟨s0, s1, _, _⟩ := (HI3.out.zero.set why (x : Int)).cells
    have HF := Lib.hid (HEnd.out _ _ why (x : Int) _ _ _ HI3.out)
    clear HI3 HEnd
    go_wp2_with fail
    refine wp_loop_rounds 1 ?_
    rw [rounds_succ]
    go_wp2_with fail
    refine bodyPost_ret (v := .agg #[.int .i64 why, .int .u64 (x : Int)]) (by simp [results, Tryz.results25, go_sem, s0, s1]) rfl ?_
    exact ⟨HF.out.2, .inl ⟨why, x, HRe.out, rfl, HF.out.1⟩⟩
  · have HRe := Lib.hid hre
    have HAl := Lib.hid hall
    have HI3 := Lib.hid (HMk.out 0 0 vl (adL LL M t vi 2 k) hown)
    obtain ⟨al, cl, rfl, hc1, hc2⟩ := hown.form
    rw [adL_len] at hc1 HI3 ⊢
    unfold maxLen at hc2
    clear hm2 hk2 hre hall hown HMk HBs hW1 HB1 HG1 hs1 HVB
    go_upto_region 2 with fail
    obtain ⟨W3, hW3⟩ : ∃ W3, w2.alloc (Obj.cells #[.int .i64 0, .int .u64 0] 41) = W3 := ⟨_, rfl⟩
    rw [hW3] at HI3 ⊢
    clear hW3
    go_wp2_with fail
    go_loopw [13] (fun iv wr => ∃ i : Nat, iv = .int .i64 (i : Int) ∧ i ≤ k ∧ Hid (SI w0 w base v w.heap.size w2.heap.size vr vd (stM LL M t vi val i) L (S + i) X 0 0 (.slice al k cl) (W1.heap.size + 1) (adL LL M t vi 2 k) wr)) (fun iv _ => k - (intOf iv).toNat)
    case atStart => exact ⟨0, rfl, Nat.zero_le _, HI3⟩
    case round =>
      obtain ⟨i, rfl, hi, HI4⟩ := hrel
      clear HI3
      by_cases hlt : i < k
      · have qi : (i : Int) < (k : Int) := by omega
        obtain ⟨g, hal, hc⟩ := HI4.out.row.cell i (by rw [adL_len]; exact hlt)
        subst hal
        obtain ⟨P, hP⟩ : ∃ P, P = (ad LL M t vi 2 i).1 := ⟨_, rfl⟩
        have hc3 : wr.cell? ⟨g, i, none⟩ = some (.int .u64 (P : Int)) := by
          rw [hc, hP]
          simp [adL]
        have hP2 : P ≤ 18446744073709551615 := by rw [hP]; exact adrF_le _ _ _ _ _
        have hbW : base ≤ wr.heap.size := Nat.le_trans hbw HI4.out.keeps.size
        have HO1 : Hid (∀ q : Int, q = ((val / 2 ^ (8 * i) % 256 : Nat) : Int) → Calls Tryz.prog 11 #[.pointer (some ⟨v, 0, none⟩), .int .u64 (P : Int), .int .i64 1, .int .u64 q] wr fun e w' => (∃ y, e = .returned y) ∧ SI w0 w base v w.heap.size w2.heap.size vr vd (stM LL M t vi val (i + 1)) L (S + (i + 1)) X 0 0 (.slice (some ⟨g, 0, none⟩) k cl) (W1.heap.size + 1) (adL LL M t vi 2 k) w') := fun q hq => by
          have := HSt.out wr _ _ _ _ _ _ _ (S + i) P (val / 2 ^ (8 * i) % 256) _ (by omega) hP2 (by rw [hP]; exact (HAl.out i hlt).2) hbW HI4.out
          rw [hq]
          refine this.mono ?_
          rintro e w' ⟨h1, h2⟩
          refine ⟨h1, ?_⟩
          rw [le_take1 (Nat.mod_lt _ (by decide)), hP, ← le_shiftR val i (by omega)] at h2
          exact h2
        clear hc hP HSt HAl HI4
        have hi8 : i < 8 := by omega
        rcases (by omega : i = 0 ∨ i = 1 ∨ i = 2 ∨ i = 3 ∨ i = 4 ∨ i = 5 ∨ i = 6 ∨ i = 7) with rfl | rfl | rfl | rfl | rfl | rfl | rfl | rfl
        all_goals
          go_upto_region 5 with fail
          go_wp2_with fail
          refine (HO1.out _ (by first | rfl | omega)).mono ?_
          rintro e w5 ⟨⟨y, rfl⟩, hI5⟩
          have HI5 := Lib.hid hI5
          clear hI5 HO1 hc3
          go_wp2_with fail
          exact ⟨⟨_, by go_num, by omega, HI5⟩, by simp [intOf]; omega⟩
      · have qi : ¬ (i : Int) < (k : Int) := by omega
        obtain rfl : i = k := by omega
        obtain ⟨g0, g1, _, _⟩ := HI4.out.fault.cells
        obtain ⟨q0, q1, q2, q3⟩ := HI4.out.zero.cells
        obtain ⟨s0, s1, _, _⟩ := (HI4.out.zero.set 0 0).cells
        have HF := Lib.hid (HEnd.out _ _ 0 0 _ _ _ HI4.out)
        clear HI4 HEnd HSt HAl
        go_wp2_with fail
        refine bodyPost_ret (v := .agg #[.int .i64 0, .int .u64 0]) (by simp [results, Tryz.results25, go_sem, s0, s1]) rfl ?_
        exact ⟨HF.out.2, .inr ⟨HRe.out, rfl, HF.out.1⟩⟩
end Go.Proofs.YtdkhhofgfbnmkaaGreat
/- The document's own accesses of a width that is none. Own work. -/
namespace Go.Proofs.YtdkhhofgfbnmkaaGreat
open Go.RowKit Go.Maps Go.Proofs.YtdkhhofgfbnmkaaGreat.Sp Wk Lv
theorem not_wide {n : Int} (h : ∀ k : Nat, Wide k → n ≠ (k : Int)) : (n != 1) = true ∧ (n != 2) = true ∧ (n != 4) = true ∧ (n != 8) = true := by
  have h1 := h 1 (.inl rfl)
  have h2 := h 2 (.inr (.inl rfl))
  have h3 := h 4 (.inr (.inr (.inl rfl)))
  have h4 := h 8 (.inr (.inr (.inr rfl)))
  exact ⟨by simpa using h1, by simpa using h2, by simpa using h3, by simpa using h4⟩
set_option maxRecDepth 100000 in
set_option maxHeartbeats 2000000 in
theorem rbytes_no {pm : Value} {t vi : Nat} {n acc : Int} (h : ∀ k : Nat, Wide k → n ≠ (k : Int)) (w : World) :
    Calls Tryz.prog 47 #[pm, .int .u64 (t : Int), .int .u64 (vi : Int), .int .i64 n, .int .i64 acc] w fun e w' => e = .returned (.tuple #[.slice none 0 0, .agg #[.int .i64 31, .int .u64 (vi : Int)]]) ∧ Below w.heap.size w w' := by
  obtain ⟨h1, h2, h3, h4⟩ := not_wide h
  clear h
  obtain ⟨s0, s1, _, _⟩ := (BoxG.new w 31 (vi : Int)).cells
  go_enter Tryz.func47, Tryz.ntmps47
  go_wp2_with fail
  refine bodyPost_ret (v := .tuple #[.slice none 0 0, .agg #[.int .i64 31, .int .u64 (vi : Int)]]) (by simp [results, Tryz.results47, go_sem, s0, s1]) rfl ?_
  exact ⟨rfl, (Below.refl _ _).alloc (Nat.le_refl _) _⟩
set_option maxRecDepth 100000 in
set_option maxHeartbeats 2000000 in
theorem rld_no {pm : Value} {t vi : Nat} {n acc : Int} (h : ∀ k : Nat, Wide k → n ≠ (k : Int)) (w : World) :
    Calls Tryz.prog 23 #[pm, .int .u64 (t : Int), .int .u64 (vi : Int), .int .i64 n, .int .i64 acc] w fun e w' => e = .returned (.tuple #[.int .u64 0, .agg #[.int .i64 31, .int .u64 (vi : Int)]]) ∧ Below w.heap.size w w' := by
  have HBs : Hid (∀ acc W, Calls Tryz.prog 47 #[pm, .int .u64 (t : Int), .int .u64 (vi : Int), .int .i64 n, .int .i64 acc] W fun e w' => e = .returned (.tuple #[.slice none 0 0, .agg #[.int .i64 31, .int .u64 (vi : Int)]]) ∧ Below W.heap.size W w') := fun acc W => rbytes_no h W
  clear h
  go_enter Tryz.func23, Tryz.ntmps23
  go_wp2_with fail
  refine (HBs.out _ _).mono ?_
  rintro e w2 ⟨rfl, hb2⟩
  have hb1 : Below w.heap.size w w2 := ((Below.refl _ w).alloc (Nat.le_refl _) _).trans (hb2.mono (by simp))
  have hz : BoxG w2 w.heap.size 0 0 := (hb2.block w.heap.size (by simp)).trans (BoxG.new w 0 0)
  clear HBs
  go_upto_region 2 with fail
  obtain ⟨W3, hW3⟩ : ∃ W3, w2.alloc (Obj.cells #[.int .i64 31, .int .u64 (vi : Int)] 41) = W3 := ⟨_, rfl⟩
  have hb3 : Below w2.heap.size w2 W3 := hW3 ▸ (Below.refl _ _).alloc (Nat.le_refl _) _
  have hf3 : BoxG W3 w2.heap.size 31 (vi : Int) := hW3 ▸ BoxG.new w2 31 (vi : Int)
  rw [hW3]
  clear hW3
  have hz3 := hz.below hb3
  have hlz : w.heap.size < w2.heap.size := hz.lt
  obtain ⟨g0, g1, _, _⟩ := hf3.cells
  obtain ⟨q0, q1, q2, q3⟩ := hz3.cells
  obtain ⟨s0, s1, _, _⟩ := (hz3.set 31 (vi : Int)).cells
  have HF : Hid (Below w.heap.size w ((W3.setCell ⟨w.heap.size, 0, none⟩ (.int .i64 31)).setCell ⟨w.heap.size, 1, none⟩ (.int .u64 (vi : Int)))) := by
    have k1 := hb1.trans (hb3.mono hb1.size)
    exact k1.trans ((Keeps.two W3 w.heap.size (.int .i64 31) (.int .u64 (vi : Int))).below k1.size (fun j _ e => by omega))
  clear hz hz3 hb1 hb2 hb3 hf3
  go_wp2_with fail
  refine wp_loop_rounds 1 ?_
  rw [rounds_succ]
  go_wp2_with fail
  go_region
  all_goals
    go_wp2_with fail
    refine bodyPost_ret (v := .tuple #[.int .u64 0, .agg #[.int .i64 31, .int .u64 (vi : Int)]]) (by simp [results, Tryz.results23, go_sem, s0, s1]) rfl ?_
    exact ⟨rfl, HF.out.trans (Below.mono ⟨rfl, rfl, rfl, Nat.le_refl _, fun _ _ => rfl⟩ HF.out.size)⟩
set_option maxRecDepth 100000 in
set_option maxHeartbeats 2000000 in
theorem rst_no {pm : Value} {t vi : Nat} {n val : Int} (h : ∀ k : Nat, Wide k → n ≠ (k : Int)) (w : World) :
    Calls Tryz.prog 25 #[pm, .int .u64 (t : Int), .int .u64 (vi : Int), .int .i64 n, .int .u64 val] w fun e w' => e = .returned (.agg #[.int .i64 31, .int .u64 (vi : Int)]) ∧ Below w.heap.size w w' := by
  have HBs : Hid (∀ acc W, Calls Tryz.prog 47 #[pm, .int .u64 (t : Int), .int .u64 (vi : Int), .int .i64 n, .int .i64 acc] W fun e w' => e = .returned (.tuple #[.slice none 0 0, .agg #[.int .i64 31, .int .u64 (vi : Int)]]) ∧ Below W.heap.size W w') := fun acc W => rbytes_no h W
  clear h
  go_enter Tryz.func25, Tryz.ntmps25
  go_wp2_with fail
  refine (HBs.out _ _).mono ?_
  rintro e w2 ⟨rfl, hb2⟩
  have hb1 : Below w.heap.size w w2 := ((Below.refl _ w).alloc (Nat.le_refl _) _).trans (hb2.mono (by simp))
  have hz : BoxG w2 w.heap.size 0 0 := (hb2.block w.heap.size (by simp)).trans (BoxG.new w 0 0)
  clear HBs
  go_upto_region 2 with fail
  obtain ⟨W3, hW3⟩ : ∃ W3, w2.alloc (Obj.cells #[.int .i64 31, .int .u64 (vi : Int)] 41) = W3 := ⟨_, rfl⟩
  have hb3 : Below w2.heap.size w2 W3 := hW3 ▸ (Below.refl _ _).alloc (Nat.le_refl _) _
  have hf3 : BoxG W3 w2.heap.size 31 (vi : Int) := hW3 ▸ BoxG.new w2 31 (vi : Int)
  rw [hW3]
  clear hW3
  have hz3 := hz.below hb3
  have hlz : w.heap.size < w2.heap.size := hz.lt
  obtain ⟨g0, g1, _, _⟩ := hf3.cells
  obtain ⟨q0, q1, q2, q3⟩ := hz3.cells
  obtain ⟨s0, s1, _, _⟩ := (hz3.set 31 (vi : Int)).cells
  have HF : Hid (Below w.heap.size w ((W3.setCell ⟨w.heap.size, 0, none⟩ (.int .i64 31)).setCell ⟨w.heap.size, 1, none⟩ (.int .u64 (vi : Int)))) := by
    have k1 := hb1.trans (hb3.mono hb1.size)
    exact k1.trans ((Keeps.two W3 w.heap.size (.int .i64 31) (.int .u64 (vi : Int))).below k1.size (fun j _ e => by omega))
  clear hz hz3 hb1 hb2 hb3 hf3
  go_wp2_with fail
  refine wp_loop_rounds 1 ?_
  rw [rounds_succ]
  go_wp2_with fail
  refine bodyPost_ret (v := .agg #[.int .i64 31, .int .u64 (vi : Int)]) (by simp [results, Tryz.results25, go_sem, s0, s1]) rfl ?_
  exact ⟨rfl, HF.out⟩
end Go.Proofs.YtdkhhofgfbnmkaaGreat
/- walk's accesses of a width that is none, over any memory. Own work. -/
namespace Go.Proofs.YtdkhhofgfbnmkaaGreat
open Go.RowKit Go.Maps Go.Proofs.YtdkhhofgfbnmkaaGreat.Sp Wk Lv
theorem not_wide_eq {n : Int} (h : ∀ k : Nat, Wide k → n ≠ (k : Int)) : (n == 1) = false ∧ (n == 2) = false ∧ (n == 4) = false ∧ (n == 8) = false := by
  have h1 := h 1 (.inl rfl)
  have h2 := h 2 (.inr (.inl rfl))
  have h3 := h 4 (.inr (.inr (.inl rfl)))
  have h4 := h 8 (.inr (.inr (.inr rfl)))
  exact ⟨by simpa using h1, by simpa using h2, by simpa using h3, by simpa using h4⟩
set_option maxRecDepth 100000 in
set_option maxHeartbeats 2000000 in
theorem reached_no {T : TypeId} {u : Value} {t vi : Nat} {n acc : Int} (h : ∀ k : Nat, Wide k → n ≠ (k : Int)) (w : World) :
    Calls Tryz.prog 49 #[.iface T u, .int .u64 (t : Int), .int .u64 (vi : Int), .int .i64 n, .int .i64 acc] w fun e w' => e = .returned (.tuple #[.slice none 0 0, .agg #[.int .i64 31, .int .u64 (vi : Int)]]) ∧ Below w.heap.size w w' := by
  obtain ⟨h1, h2, h3, h4⟩ := not_wide_eq h
  clear h
  obtain ⟨s0, s1, _, _⟩ := (BoxF.new w 31 (vi : Int)).cells
  go_enter Tryz.func49, Tryz.ntmps49
  go_wp2_with fail
  refine bodyPost_ret (v := .tuple #[.slice none 0 0, .agg #[.int .i64 31, .int .u64 (vi : Int)]]) (by simp [results, Tryz.results49, go_sem, s0, s1]) rfl ?_
  exact ⟨rfl, (Below.refl _ _).alloc (Nat.le_refl _) _⟩
set_option maxRecDepth 100000 in
set_option maxHeartbeats 2000000 in
theorem take_no {T : TypeId} {u : Value} {t vi : Nat} {n acc : Int} (h : ∀ k : Nat, Wide k → n ≠ (k : Int)) (w : World) :
    Calls Tryz.prog 35 #[.iface T u, .int .u64 (t : Int), .int .u64 (vi : Int), .int .i64 n, .int .i64 acc] w fun e w' => e = .returned (.tuple #[.int .u64 0, .agg #[.int .i64 31, .int .u64 (vi : Int)]]) ∧ Below w.heap.size w w' := by
  have HRe : Hid (∀ W, Calls Tryz.prog 49 #[.iface T u, .int .u64 (t : Int), .int .u64 (vi : Int), .int .i64 n, .int .i64 acc] W fun e w' => e = .returned (.tuple #[.slice none 0 0, .agg #[.int .i64 31, .int .u64 (vi : Int)]]) ∧ Below W.heap.size W w') := fun W => reached_no h W
  clear h
  go_enter Tryz.func35, Tryz.ntmps35
  go_wp2_with fail
  refine (HRe.out _).mono ?_
  rintro e w2 ⟨rfl, hb2⟩
  have hb1 : Below w.heap.size w w2 := ((Below.refl _ w).alloc (Nat.le_refl _) _).trans (hb2.mono (by simp))
  have hz : BoxF w2 w.heap.size 0 0 := (hb2.block w.heap.size (by simp)).trans (BoxF.new w 0 0)
  clear HRe
  obtain ⟨W3, hW3⟩ : ∃ W3, w2.alloc (Obj.cells #[.int .i64 31, .int .u64 (vi : Int)] 57) = W3 := ⟨_, rfl⟩
  have hb3 : Below w2.heap.size w2 W3 := hW3 ▸ (Below.refl _ _).alloc (Nat.le_refl _) _
  have hf3 : BoxF W3 w2.heap.size 31 (vi : Int) := hW3 ▸ BoxF.new w2 31 (vi : Int)
  have hz3 := hz.below hb3
  have hlz : w.heap.size < w2.heap.size := hz.lt
  obtain ⟨g0, g1, _, _⟩ := hf3.cells
  obtain ⟨q0, q1, q2, q3⟩ := hz3.cells
  obtain ⟨s0, s1, _, _⟩ := (hz3.set 31 (vi : Int)).cells
  have HF : Hid (Below w.heap.size w ((W3.setCell ⟨w.heap.size, 0, none⟩ (.int .i64 31)).setCell ⟨w.heap.size, 1, none⟩ (.int .u64 (vi : Int)))) := by
    have k1 := hb1.trans (hb3.mono hb1.size)
    exact k1.trans ((Keeps.two W3 w.heap.size (.int .i64 31) (.int .u64 (vi : Int))).below k1.size (fun j _ e => by omega))
  have HX3 := Lib.hid hz3
  have hne : w.heap.size ≠ w2.heap.size := by omega
  clear hz hz3 hb1 hb2 hb3 hf3
  go_wp2_with fail
  clear hW3
  go_region_held3 (fun w' => w'.cell? ⟨w2.heap.size, 0, none⟩ = some (.int .i64 31) ∧ w'.cell? ⟨w2.heap.size, 1, none⟩ = some (.int .u64 (vi : Int))) (go_keep) (fail)
  go_wp2_with fail
  obtain ⟨d0, d1, _⟩ := BoxF.cells (w := ((W3.setCell ⟨w.heap.size, 0, none⟩ (.int .i64 31)).setCell ⟨w.heap.size, 1, none⟩ (.int .u64 (vi : Int))).drew) (HX3.out.set 31 (vi : Int))
  refine bodyPost_ret (v := .tuple #[.int .u64 0, .agg #[.int .i64 31, .int .u64 (vi : Int)]]) (by simp [results, Tryz.results35, go_sem, d0, d1]) rfl ?_
  exact ⟨rfl, HF.out.trans (Below.mono ⟨rfl, rfl, rfl, Nat.le_refl _, fun _ _ => rfl⟩ HF.out.size)⟩
set_option maxRecDepth 100000 in
set_option maxHeartbeats 2000000 in
theorem wload_no {T : TypeId} {u : Value} {t vi : Nat} {n : Int} (h : ∀ k : Nat, Wide k → n ≠ (k : Int)) (w : World) :
    Calls Tryz.prog 14 #[.iface T u, .int .u64 (t : Int), .int .u64 (vi : Int), .int .i64 n] w fun e w' => e = .returned (.tuple #[.int .u64 0, .agg #[.int .i64 31, .int .u64 (vi : Int)]]) ∧ Below w.heap.size w w' := by
  have HT := Lib.hid (take_no (T := T) (u := u) (t := t) (vi := vi) (acc := 1) h (w.alloc (Obj.cells #[.int .i64 0, .int .u64 0] 57)))
  clear h
  go_enter Tryz.func14, Tryz.ntmps14
  go_wp2_with fail
  refine HT.out.mono ?_
  rintro e w2 ⟨rfl, hb2⟩
  have hb1 : Below w.heap.size w w2 := ((Below.refl _ w).alloc (Nat.le_refl _) _).trans (hb2.mono (by simp))
  have hz : BoxF w2 w.heap.size 0 0 := (hb2.block w.heap.size (by simp)).trans (BoxF.new w 0 0)
  clear HT hb2
  obtain ⟨q0, q1, q2, q3⟩ := hz.cells
  obtain ⟨s0, s1, _, _⟩ := (hz.set 31 (vi : Int)).cells
  have HF : Hid (Below w.heap.size w ((w2.setCell ⟨w.heap.size, 0, none⟩ (.int .i64 31)).setCell ⟨w.heap.size, 1, none⟩ (.int .u64 (vi : Int)))) := hb1.trans ((Keeps.two w2 w.heap.size (.int .i64 31) (.int .u64 (vi : Int))).below hb1.size (fun j _ e => by omega))
  clear hb1 hz
  go_wp2_with fail
  refine bodyPost_ret (v := .tuple #[.int .u64 0, .agg #[.int .i64 31, .int .u64 (vi : Int)]]) (by simp [results, Tryz.results14, go_sem, s0, s1]) rfl ?_
  exact ⟨rfl, HF.out⟩
set_option maxRecDepth 100000 in
set_option maxHeartbeats 2000000 in
theorem wfetch_no {T : TypeId} {u : Value} {t vi : Nat} {n : Int} (h : ∀ k : Nat, Wide k → n ≠ (k : Int)) (w : World) :
    Calls Tryz.prog 15 #[.iface T u, .int .u64 (t : Int), .int .u64 (vi : Int), .int .i64 n] w fun e w' => e = .returned (.tuple #[.int .u64 0, .agg #[.int .i64 31, .int .u64 (vi : Int)]]) ∧ Below w.heap.size w w' := by
  have HT := Lib.hid (take_no (T := T) (u := u) (t := t) (vi := vi) (acc := 3) h (w.alloc (Obj.cells #[.int .i64 0, .int .u64 0] 57)))
  clear h
  go_enter Tryz.func15, Tryz.ntmps15
  go_wp2_with fail
  refine HT.out.mono ?_
  rintro e w2 ⟨rfl, hb2⟩
  have hb1 : Below w.heap.size w w2 := ((Below.refl _ w).alloc (Nat.le_refl _) _).trans (hb2.mono (by simp))
  have hz : BoxF w2 w.heap.size 0 0 := (hb2.block w.heap.size (by simp)).trans (BoxF.new w 0 0)
  clear HT hb2
  obtain ⟨q0, q1, q2, q3⟩ := hz.cells
  obtain ⟨s0, s1, _, _⟩ := (hz.set 31 (vi : Int)).cells
  have HF : Hid (Below w.heap.size w ((w2.setCell ⟨w.heap.size, 0, none⟩ (.int .i64 31)).setCell ⟨w.heap.size, 1, none⟩ (.int .u64 (vi : Int)))) := hb1.trans ((Keeps.two w2 w.heap.size (.int .i64 31) (.int .u64 (vi : Int))).below hb1.size (fun j _ e => by omega))
  clear hb1 hz
  go_wp2_with fail
  refine bodyPost_ret (v := .tuple #[.int .u64 0, .agg #[.int .i64 31, .int .u64 (vi : Int)]]) (by simp [results, Tryz.results15, go_sem, s0, s1]) rfl ?_
  exact ⟨rfl, HF.out⟩
set_option maxRecDepth 100000 in
set_option maxHeartbeats 2000000 in
theorem wstore_no {T : TypeId} {u : Value} {t vi : Nat} {n val : Int} (h : ∀ k : Nat, Wide k → n ≠ (k : Int)) (w : World) :
    Calls Tryz.prog 24 #[.iface T u, .int .u64 (t : Int), .int .u64 (vi : Int), .int .i64 n, .int .u64 val] w fun e w' => e = .returned (.agg #[.int .i64 31, .int .u64 (vi : Int)]) ∧ Below w.heap.size w w' := by
  have HRe : Hid (∀ W, Calls Tryz.prog 49 #[.iface T u, .int .u64 (t : Int), .int .u64 (vi : Int), .int .i64 n, .int .i64 2] W fun e w' => e = .returned (.tuple #[.slice none 0 0, .agg #[.int .i64 31, .int .u64 (vi : Int)]]) ∧ Below W.heap.size W w') := fun W => reached_no h W
  clear h
  go_enter Tryz.func24, Tryz.ntmps24
  go_wp2_with fail
  refine (HRe.out _).mono ?_
  rintro e w2 ⟨rfl, hb2⟩
  have hb1 : Below w.heap.size w w2 := ((Below.refl _ w).alloc (Nat.le_refl _) _).trans (hb2.mono (by simp))
  have hz : BoxF w2 w.heap.size 0 0 := (hb2.block w.heap.size (by simp)).trans (BoxF.new w 0 0)
  clear HRe
  obtain ⟨W3, hW3⟩ : ∃ W3, w2.alloc (Obj.cells #[.int .i64 31, .int .u64 (vi : Int)] 57) = W3 := ⟨_, rfl⟩
  have hb3 : Below w2.heap.size w2 W3 := hW3 ▸ (Below.refl _ _).alloc (Nat.le_refl _) _
  have hf3 : BoxF W3 w2.heap.size 31 (vi : Int) := hW3 ▸ BoxF.new w2 31 (vi : Int)
  have hz3 := hz.below hb3
  have hlz : w.heap.size < w2.heap.size := hz.lt
  obtain ⟨g0, g1, _, _⟩ := hf3.cells
  obtain ⟨q0, q1, q2, q3⟩ := hz3.cells
  obtain ⟨s0, s1, _, _⟩ := (hz3.set 31 (vi : Int)).cells
  have HF : Hid (Below w.heap.size w ((W3.setCell ⟨w.heap.size, 0, none⟩ (.int .i64 31)).setCell ⟨w.heap.size, 1, none⟩ (.int .u64 (vi : Int)))) := by
    have k1 := hb1.trans (hb3.mono hb1.size)
    exact k1.trans ((Keeps.two W3 w.heap.size (.int .i64 31) (.int .u64 (vi : Int))).below k1.size (fun j _ e => by omega))
  clear hz hz3 hb1 hb2 hb3 hf3
  go_wp2_with fail
  refine bodyPost_ret (v := .agg #[.int .i64 31, .int .u64 (vi : Int)]) (by simp [results, Tryz.results24, go_sem, s0, s1]) rfl ?_
  exact ⟨rfl, HF.out⟩
end Go.Proofs.YtdkhhofgfbnmkaaGreat
