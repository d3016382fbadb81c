import Derived.Test.YtdkhhofgfbnmkaaGreatPk43
import Derived.Test.YtdkhhofgfbnmkaaGreatPk44
import Derived.Test.YtdkhhofgfbnmkaaGreatPk35
/- The document's own Store through tables, and where its pages lie. Own work. -/
namespace Go.Proofs.YtdkhhofgfbnmkaaGreat
open Go.RowKit Go.Maps Go.Proofs.YtdkhhofgfbnmkaaGreat.Sp Wk Lv
/-- what holds while the bytes are stored -/
structure SIg (Gp : Int → Prop) (w0 w : World) (base v gf gr : Nat) (vr vd : Value) (M : Nat → Nat) (L S X : Nat) (k a : Int) (vl : Value) (b0 : Nat) (xs : List Nat) (W : World) : Prop where
  below : Below w0.heap.size w0 W
  keeps : Kv base w W
  mac : ∃ vp ps, RM W base v vr vd vp ps M L S X ∧ ∀ x ∈ ps, Gp x.1
  zero : BoxG W gf 0 0
  fault : BoxG W gr k a
  row : OwnA W b0 vl xs
theorem SIg.step {Gp : Int → Prop} {w0 w : World} {base v gf gr : Nat} {vr vd : Value} {M M' : Nat → Nat} {L S X S' : Nat} {k a : Int} {vl : Value} {b0 : Nat} {xs : List Nat} {W W' : World} (h : SIg Gp w0 w base v gf gr vr vd M L S X k a vl b0 xs W) (hb : w0.heap.size ≤ base) (hk : Kv base W W') (hm : ∃ vp ps, RM W' base v vr vd vp ps M' L S' X ∧ ∀ x ∈ ps, Gp x.1) : SIg Gp w0 w base v gf gr vr vd M' L S' X k a vl b0 xs W' :=
  ⟨below_keeps h.below hk (fun _ e => Nat.le_trans hb e.1), h.keeps.trans hk, hm, h.zero.keeps hk (fun e => boxG_notVB h.zero _ e rfl), h.fault.keeps hk (fun e => boxG_notVB h.fault _ e rfl), h.row.keeps hk (fun _ e e' => ownA_notVB h.row _ e' e)⟩
/-- what the document's Store answers -/
def StPg (Gp : Int → Prop) (w : World) (base v : Nat) (vr vd : Value) (M : Nat → Nat) (LL : List Sp) (L S X t vi val k : Nat) (e : Ending) (w' : World) : Prop :=
  Kv base w w' ∧ ((∃ why x, reachF LL M t vi 2 k = some (why, x) ∧ e = .returned (.agg #[.int .i64 why, .int .u64 (x : Int)]) ∧ ∃ vp ps, RM w' base v vr vd vp ps M L S X ∧ ∀ x ∈ ps, Gp x.1) ∨ (reachF LL M t vi 2 k = none ∧ e = .returned (.agg #[.int .i64 0, .int .u64 0]) ∧ ∃ vp ps, RM w' base v vr vd vp ps (stM LL M t vi val k) L (S + k) X ∧ ∀ x ∈ ps, Gp x.1))
set_option maxRecDepth 100000 in
set_option maxHeartbeats 4000000 in
theorem rst_g {Gp : Int → Prop} {w0 w : World} {base v : Nat} {vr vd vp : Value} {ps : List (Int × Nat)} {M : Nat → Nat} {L S X : Nat} {rs ds : List Sp} {t vi val k : Nat} (h : RM w base v vr vd vp ps M L S X) (hb0 : Below w0.heap.size w0 w) (hbs : w0.heap.size ≤ base) (hbw : base ≤ w.heap.size) (hv0 : w0.heap.size ≤ v) (hvs : v < w.heap.size) (hr : U64.SV w0 vr rs) (hd : U64.SV w0 vd ds) (hs : Sane (rs ++ ds)) (hll : rs.length + ds.length ≤ 64) (hX : X ≤ 4611686018427387904) (hS : S ≤ 4611686018427387000) (ht : t ≤ 18446744073709551615) (hval : val ≤ 18446744073709551615) (hk : Wide k) (hgp : ∀ x ∈ ps, Gp x.1) (hgo : ∀ p : Int, On (rs ++ ds) p → Gp (p / 4096)) :
    Calls Tryz.prog 25 #[.pointer (some ⟨v, 0, none⟩), .int .u64 (t : Int), .int .u64 (vi : Int), .int .i64 (k : Int), .int .u64 (val : Int)] w (StPg Gp w base v vr vd M (rs ++ ds) L S X t vi val k) := by
  obtain ⟨W1, hW1⟩ : ∃ W1, w.alloc (Obj.cells #[.int .i64 0, .int .u64 0] 41) = W1 := ⟨_, rfl⟩
  have HB1 : Hid (Below w.heap.size w W1) := hW1 ▸ (Below.refl _ w).alloc (Nat.le_refl _) _
  have HG1 : Hid (BoxG W1 w.heap.size 0 0) := hW1 ▸ BoxG.new w 0 0
  have hs1 : W1.heap.size = w.heap.size + 1 := by rw [← hW1]; simp
  have HBs := Lib.hid (rbytes_of (w0 := w0) (rs := rs) (ds := ds) (t := t) (vi := vi) (k := k) (acc := 2) (h.below HB1.out) (hb0.trans (HB1.out.mono hb0.size)) hv0 (by omega) hr hd hs hll hX ht hk)
  have HVB : Hid (VB base w v) := ⟨h.1, _, _, _, h.2.1, .inl rfl⟩
  have HSt : Hid (∀ W gf gr (c a : Int) vl b0 xs (q p z : Nat) M', q ≤ 4611686018427387904 → p ≤ 18446744073709551615 → On (rs ++ ds) (p : Int) → base ≤ W.heap.size → SIg Gp w0 w base v gf gr vr vd M' L q X c a vl b0 xs W → Calls Tryz.prog 11 #[.pointer (some ⟨v, 0, none⟩), .int .u64 (p : Int), .int .i64 1, .int .u64 (z : Int)] W fun e w' => (∃ y, e = .returned y) ∧ SIg Gp w0 w base v gf gr vr vd (putAt M' p ((Pl.le 8 z).take 1)) L (q + 1) X c a vl b0 xs w') := fun W gf gr c a vl b0 xs q p z M' hq hp ho hbW hI => by
    obtain ⟨vp', ps', hm', hg'⟩ := hI.mac
    refine (rstore_g (Gp := Gp) (n := 1) hm' (.inl rfl) hbW (hr.below hI.below (Nat.le_refl _)) (hd.below hI.below (Nat.le_refl _)) hs hll hp hX hq hg' hgo).mono ?_
    rintro e w' ⟨x, b, hof, rfl, hkk, _, hb2⟩
    cases b with
    | true =>
      obtain ⟨i, hi, _, _, hn, _⟩ := hof.1 rfl
      obtain rfl : i = 0 := by omega
      exact absurd (by simpa using ho) hn
    | false => exact ⟨⟨_, rfl⟩, hI.step hbs hkk (hb2 rfl)⟩
  have HW0 := Lib.hid hb0
  have HGp := Lib.hid hgp
  have hk1 : k ≤ 8 ∧ 1 ≤ k := by rcases hk with rfl | rfl | rfl | rfl <;> omega
  clear h hr hd hs hll hX hb0 hk hgp hgo
  generalize rs ++ ds = LL at *
  go_enter Tryz.func25, Tryz.ntmps25
  go_wp2_with fail
  refine HBs.out.mono ?_
  rintro e w2 ⟨hm2, hk2, hc⟩
  have HMk : Hid (∀ (K A : Int) vl xs, OwnA w2 (W1.heap.size + 1) vl xs → SIg Gp w0 w base v w.heap.size w2.heap.size vr vd M L S X K A vl (W1.heap.size + 1) xs (w2.alloc (Obj.cells #[.int .i64 K, .int .u64 A] 41))) := fun K A vl xs ho => by
    have hb : Below w2.heap.size w2 (w2.alloc (Obj.cells #[.int .i64 K, .int .u64 A] 41)) := (Below.refl _ _).alloc (Nat.le_refl _) _
    have hb1 : Below w0.heap.size w0 w2 := below_keeps (HW0.out.trans (HB1.out.mono HW0.out.size)) hk2 (fun j e => by rw [e]; exact hv0)
    have hkk : Keeps (fun j => j = v) w (w2.alloc (Obj.cells #[.int .i64 K, .int .u64 A] 41)) := ((Keeps.of_below (S := fun j => j = v) HB1.out).trans hk2 (fun _ _ e => e)).trans (Keeps.of_below (S := fun _ => False) hb) (fun _ _ e => e.elim)
    exact ⟨hb1.trans (hb.mono hb1.size), Kv.of hkk (fun j _ e => by rw [show j = v from e]; exact HVB.out), ⟨_, _, hm2.below hb, HGp.out⟩, (HG1.out.keeps hk2 (by omega)).below hb, BoxG.new w2 K A, ho.below hb⟩
  have hz2 : w.heap.size + 1 ≤ w2.heap.size := by rw [← hs1]; exact hk2.size
  have HS1 := Lib.hid hs1
  have HEnd : Hid (∀ q M' (K A : Int) vl xs W, SIg Gp w0 w base v w.heap.size w2.heap.size vr vd M' L q X K A vl (W1.heap.size + 1) xs W → (∃ vp ps, RM ((W.setCell ⟨w.heap.size, 0, none⟩ (.int .i64 K)).setCell ⟨w.heap.size, 1, none⟩ (.int .u64 A)) base v vr vd vp ps M' L q X ∧ ∀ x ∈ ps, Gp x.1) ∧ Kv base w ((W.setCell ⟨w.heap.size, 0, none⟩ (.int .i64 K)).setCell ⟨w.heap.size, 1, none⟩ (.int .u64 A))) := fun q M' K A vl xs W hI => by
    have hk := Keeps.two W w.heap.size (.int .i64 K) (.int .u64 A)
    obtain ⟨vp', ps', hm', hg'⟩ := hI.mac
    exact ⟨⟨vp', ps', hm'.keeps hk (boxG_notVB hI.zero), hg'⟩, Keeps.trans hI.keeps hk (fun j hj e => by omega)⟩
  rcases hc with ⟨why, x, hre, rfl⟩ | ⟨hre, hall, vl, rfl, hown⟩
  · have HRe := Lib.hid hre
    have HI3 := Lib.hid (HMk.out why (x : Int) (.slice none 0 0) [] (OwnA.nil _ _))
    clear hm2 hk2 hre HMk HBs HSt hW1 HB1 HG1 hs1 HVB
    go_upto_region 2 with fail
    obtain ⟨W3, hW3⟩ : ∃ W3, w2.alloc (Obj.cells #[.int .i64 why, .int .u64 (x : Int)] 41) = W3 := ⟨_, rfl⟩
    rw [hW3] at HI3 ⊢
    clear hW3
    obtain ⟨g0, g1, _, _⟩ := HI3.out.fault.cells
    obtain ⟨q0, q1, q2, q3⟩ := HI3.out.zero.cells
    obtain ⟨s0, s1, _, _⟩ := (HI3.out.zero.set why (x : Int)).cells
    have HF := Lib.hid (HEnd.out _ _ why (x : Int) _ _ _ HI3.out)
    clear HI3 HEnd
    go_wp2_with fail
    refine wp_loop_rounds 1 ?_
    rw [rounds_succ]
    go_wp2_with fail
    refine bodyPost_ret (v := .agg #[.int .i64 why, .int .u64 (x : Int)]) (by simp [results, Tryz.results25, go_sem, s0, s1]) rfl ?_
    exact ⟨HF.out.2, .inl ⟨why, x, HRe.out, rfl, HF.out.1⟩⟩
  · have HRe := Lib.hid hre
    have HAl := Lib.hid hall
    have HI3 := Lib.hid (HMk.out 0 0 vl (adL LL M t vi 2 k) hown)
    obtain ⟨al, cl, rfl, hc1, hc2⟩ := hown.form
    rw [adL_len] at hc1 HI3 ⊢
    unfold maxLen at hc2
    clear hm2 hk2 hre hall hown HMk HBs hW1 HB1 HG1 hs1 HVB
    go_upto_region 2 with fail
    obtain ⟨W3, hW3⟩ : ∃ W3, w2.alloc (Obj.cells #[.int .i64 0, .int .u64 0] 41) = W3 := ⟨_, rfl⟩
    rw [hW3] at HI3 ⊢
    clear hW3
    go_wp2_with fail
    go_loopw [13] (fun iv wr => ∃ i : Nat, iv = .int .i64 (i : Int) ∧ i ≤ k ∧ Hid (SIg Gp w0 w base v w.heap.size w2.heap.size vr vd (stM LL M t vi val i) L (S + i) X 0 0 (.slice al k cl) (W1.heap.size + 1) (adL LL M t vi 2 k) wr)) (fun iv _ => k - (intOf iv).toNat)
    case atStart => exact ⟨0, rfl, Nat.zero_le _, HI3⟩
    case round =>
      obtain ⟨i, rfl, hi, HI4⟩ := hrel
      clear HI3
      by_cases hlt : i < k
      · have qi : (i : Int) < (k : Int) := by omega
        obtain ⟨g, hal, hc⟩ := HI4.out.row.cell i (by rw [adL_len]; exact hlt)
        subst hal
        obtain ⟨P, hP⟩ : ∃ P, P = (ad LL M t vi 2 i).1 := ⟨_, rfl⟩
        have hc3 : wr.cell? ⟨g, i, none⟩ = some (.int .u64 (P : Int)) := by
          rw [hc, hP]
          simp [adL]
        have hP2 : P ≤ 18446744073709551615 := by rw [hP]; exact adrF_le _ _ _ _ _
        have hbW : base ≤ wr.heap.size := Nat.le_trans hbw HI4.out.keeps.size
        have HO1 : Hid (∀ q : Int, q = ((val / 2 ^ (8 * i) % 256 : Nat) : Int) → Calls Tryz.prog 11 #[.pointer (some ⟨v, 0, none⟩), .int .u64 (P : Int), .int .i64 1, .int .u64 q] wr fun e w' => (∃ y, e = .returned y) ∧ SIg Gp w0 w base v w.heap.size w2.heap.size vr vd (stM LL M t vi val (i + 1)) L (S + (i + 1)) X 0 0 (.slice (some ⟨g, 0, none⟩) k cl) (W1.heap.size + 1) (adL LL M t vi 2 k) w') := fun q hq => by
          have := HSt.out wr _ _ _ _ _ _ _ (S + i) P (val / 2 ^ (8 * i) % 256) _ (by omega) hP2 (by rw [hP]; exact (HAl.out i hlt).2) hbW HI4.out
          rw [hq]
          refine this.mono ?_
          rintro e w' ⟨h1, h2⟩
          refine ⟨h1, ?_⟩
          rw [le_take1 (Nat.mod_lt _ (by decide)), hP, ← le_shiftR val i (by omega)] at h2
          exact h2
        clear hc hP HSt HAl HI4
        have hi8 : i < 8 := by omega
        rcases (by omega : i = 0 ∨ i = 1 ∨ i = 2 ∨ i = 3 ∨ i = 4 ∨ i = 5 ∨ i = 6 ∨ i = 7) with rfl | rfl | rfl | rfl | rfl | rfl | rfl | rfl
        all_goals
          go_upto_region 5 with fail
          go_wp2_with fail
          refine (HO1.out _ (by first | rfl | omega)).mono ?_
          rintro e w5 ⟨⟨y, rfl⟩, hI5⟩
          have HI5 := Lib.hid hI5
          clear hI5 HO1 hc3
          go_wp2_with fail
          exact ⟨⟨_, by go_num, by omega, HI5⟩, by simp [intOf]; omega⟩
      · have qi : ¬ (i : Int) < (k : Int) := by omega
        obtain rfl : i = k := by omega
        obtain ⟨g0, g1, _, _⟩ := HI4.out.fault.cells
        obtain ⟨q0, q1, q2, q3⟩ := HI4.out.zero.cells
        obtain ⟨s0, s1, _, _⟩ := (HI4.out.zero.set 0 0).cells
        have HF := Lib.hid (HEnd.out _ _ 0 0 _ _ _ HI4.out)
        clear HI4 HEnd HSt HAl
        go_wp2_with fail
        refine bodyPost_ret (v := .agg #[.int .i64 0, .int .u64 0]) (by simp [results, Tryz.results25, go_sem, s0, s1]) rfl ?_
        exact ⟨HF.out.2, .inr ⟨HRe.out, rfl, HF.out.1⟩⟩
end Go.Proofs.YtdkhhofgfbnmkaaGreat
/- The two machines of the law, and where the document's pages lie. Own work. -/
namespace Go.Proofs.YtdkhhofgfbnmkaaGreat
open Go.RowKit Go.Maps Go.Proofs.YtdkhhofgfbnmkaaGreat.Sp Wk
/-- a page that lies on the bus -/
def Og (LL : List Sp) (x : Int) : Prop := ∀ i : Nat, i < 4096 → On LL (x * 4096 + (i : Int))
/-- ranges of whole pages -/
def Pgd (LL : List Sp) : Prop := ∀ r ∈ LL, 0 ≤ r.1 ∧ r.1 % 4096 = 0 ∧ r.2 % 4096 = 0
theorem og_of {LL : List Sp} (h : Pgd LL) (p : Int) (hp : On LL p) : Og LL (p / 4096) := by
  intro i hi
  obtain ⟨r, hr, h1, h2⟩ := hp
  obtain ⟨_, e1, e2⟩ := h r hr
  exact ⟨r, hr, by omega, by omega⟩
/-- a machine and the document's own beside it -/
def GMg (w0 wr : World) (base m B : Nat) (V : Value × Value × Value) (v : Nat) (vr vd : Value) (rs ds : List Sp) (p q : Hs) (n k : Nat) : Prop :=
  ∃ T X, X ≤ n ∧ Mac wr m B V T p.1 rs ds p.2.1 p.2.2 X ∧ (∀ j, Mine m B V T j → w0.heap.size ≤ j) ∧ (∀ j, Mine m B V (fun _ => none) j → j < base) ∧ w0.heap.size ≤ base ∧ base ≤ wr.heap.size ∧ Below w0.heap.size w0 wr ∧ ∃ vp ps X', X' ≤ k ∧ RM wr base v vr vd vp ps q.1 q.2.1 q.2.2 X' ∧ ∀ x ∈ ps, Og (rs ++ ds) x.1
theorem GMg.below {w0 wr W : World} {base m B : Nat} {V : Value × Value × Value} {v : Nat} {vr vd : Value} {rs ds : List Sp} {p q : Hs} {n k : Nat} (h : GMg w0 wr base m B V v vr vd rs ds p q n k) (hb : Below wr.heap.size wr W) : GMg w0 W base m B V v vr vd rs ds p q n k := by
  obtain ⟨T, X, hX, h1, h2, h3, h4, h5, h6, vp, ps, X', hX', h7, h8⟩ := h
  exact ⟨T, X, hX, h1.below hb, h2, h3, h4, Nat.le_trans h5 hb.size, h6.trans (hb.mono h6.size), vp, ps, X', hX', h7.below hb, h8⟩
theorem gmg_store1 {w0 wr : World} {base m B : Nat} {V : Value × Value × Value} {v : Nat} {vr vd : Value} {rs ds : List Sp} {p q : Hs} {n k a val : Nat} (h : GMg w0 wr base m B V v vr vd rs ds p q n k) (ha : a ≤ 18446744073709551615) (hval : val ≤ 18446744073709551615) (hn : n ≤ 4611686018427387904) (hS : p.2.2 ≤ 4611686018427387904) :
    Calls Tryz.prog 17 #[.pointer (some ⟨m, 0, none⟩), .int .u64 (a : Int), .int .i64 8, .int .u64 (val : Int)] wr fun e w' => ∃ x b, OffR (rs ++ ds) a 8 x b ∧ e = .returned (FaultV (if b then 30 else 0) x) ∧ Hid (GMg w0 w' base m B V v vr vd rs ds (stF (rs ++ ds) a val p) q (n + 1) k) := by
  obtain ⟨T, X, hX, h1, h2, h3, h4, h5, h6, vp, ps, X', hX', h7, h8⟩ := h
  refine (store_any (n := 8) h1 ha (.inr (.inr (.inr rfl))) hval (by omega) hS).mono ?_
  rintro e w' ⟨x, b, ho, rfl, hk, hb1, hb2⟩
  refine ⟨x, b, ho, rfl, ?_⟩
  have hz : ∀ j, (j = m ∨ Foot B T j) → w0.heap.size ≤ j := fun j e => h2 j (e.elim .inl (fun e => .inr (.inl e)))
  have hRM : RM w' base v vr vd vp ps q.1 q.2.1 q.2.2 X' := h7.keeps hk (fun j hv e => mine_notVB h1.mx h3 j (e.elim .inl (fun e => .inr (.inl e))) hv)
  have hB := below_keeps h6 hk hz
  rw [stF_off ho]
  cases b with
  | true => exact ⟨T, X + 1, by omega, hb1 rfl, h2, h3, h4, Nat.le_trans h5 hk.size, hB, vp, ps, X', hX', hRM, h8⟩
  | false =>
    obtain ⟨T', hm', hg⟩ := hb2 rfl
    refine ⟨T', X, by omega, hm', fun j hj => ?_, h3, h4, Nat.le_trans h5 hk.size, hB, vp, ps, X', hX', hRM, h8⟩
    rcases hj with rfl | (rfl | ⟨i, hi⟩) | hj
    · exact h2 _ (.inl rfl)
    · exact h2 _ (.inr (.inl (.inl rfl)))
    · rcases hg i j hi with hi | hi
      · exact h2 _ (.inr (.inl (.inr ⟨i, hi⟩)))
      · exact Nat.le_trans h6.size hi
    · exact h2 _ (.inr (.inr hj))
theorem gmg_store2 {w0 wr : World} {base m B : Nat} {V : Value × Value × Value} {v : Nat} {vr vd : Value} {rs ds : List Sp} {p q : Hs} {n k a val : Nat} (h : GMg w0 wr base m B V v vr vd rs ds p q n k) (hr : U64.SV w0 vr rs) (hd : U64.SV w0 vd ds) (hl : rs.length + ds.length ≤ 64) (ha : a ≤ 18446744073709551615) (hn : k ≤ 4611686018427387904) (hS : q.2.2 ≤ 4611686018427387904) (hpg : Pgd (rs ++ ds)) :
    Calls Tryz.prog 11 #[.pointer (some ⟨v, 0, none⟩), .int .u64 (a : Int), .int .i64 8, .int .u64 (val : Int)] wr fun e w' => ∃ x b, OffR (rs ++ ds) a 8 x b ∧ e = .returned (FaultV (if b then 30 else 0) x) ∧ Hid (GMg w0 w' base m B V v vr vd rs ds p (stF (rs ++ ds) a val q) n (k + 1)) := by
  obtain ⟨T, X, hX, h1, h2, h3, h4, h5, h6, vp, ps, X', hX', h7, h8⟩ := h
  have hsn : Sane (rs ++ ds) := h1.mx.sane
  refine (rstore_g (Gp := Og (rs ++ ds)) (n := 8) h7 (.inr (.inr (.inr rfl))) h5 (hr.below h6 (Nat.le_refl _)) (hd.below h6 (Nat.le_refl _)) hsn hl ha (by omega) hS h8 (og_of hpg)).mono ?_
  rintro e w' ⟨x, b, ho, rfl, hk, hb1, hb2⟩
  refine ⟨x, b, ho, rfl, ?_⟩
  have hM : Mac w' m B V T p.1 rs ds p.2.1 p.2.2 X := h1.keeps hk (mine_notVB h1.mx h3)
  have hB := below_keeps h6 hk (fun j e => Nat.le_trans h4 e.1)
  rw [stF_off ho]
  cases b with
  | true => exact ⟨T, X, hX, hM, h2, h3, h4, Nat.le_trans h5 hk.size, hB, vp, ps, X' + 1, by omega, hb1 rfl, h8⟩
  | false =>
    obtain ⟨vp', ps', hr', hg'⟩ := hb2 rfl
    exact ⟨T, X, hX, hM, h2, h3, h4, Nat.le_trans h5 hk.size, hB, vp', ps', X', by omega, hr', hg'⟩
end Go.Proofs.YtdkhhofgfbnmkaaGreat
/- The two machines of the law: grounds, and what lies in both then. Own work. -/
namespace Go.Proofs.YtdkhhofgfbnmkaaGreat
open Go.RowKit Go.Maps Go.Proofs.YtdkhhofgfbnmkaaGreat.Sp Wk
theorem stakeW_page {most : Int} : ∀ (rs pre : List Sp), Fits 18446744073709551615 rs → stakeW most pre rs = 0 → Pgd rs
  | [], _, _, _, _, hr => by cases hr
  | r :: l, pre, hf, h, x, hx => by
    rw [stakeW] at h
    by_cases h0 : refuse1 pre r.1 r.2 most = 0
    · rw [if_pos h0] at h
      rcases List.mem_cons.1 hx with rfl | hx
      · obtain ⟨_, h2, _, h4, _⟩ := refuse1_parts h0
        exact ⟨(hf x (List.mem_cons_self ..)).1, h4, h2⟩
      · exact stakeW_page l (pre ++ [r]) (fun x hx => hf x (List.mem_cons_of_mem _ hx)) h x hx
    · rw [if_neg h0] at h
      exact absurd h h0
theorem refW_pgd {rs ds : List Sp} (fr : Fits 18446744073709551615 rs) (fd : Fits 18446744073709551615 ds) (h : refW rs ds = 0) : Pgd (rs ++ ds) := by
  by_cases hl : 8 < rs.length ∨ 32 < ds.length
  · rw [refW, if_pos hl] at h; omega
  · rw [refW, if_neg hl] at h
    by_cases h1 : stakeW 18446744073709551615 [] rs = 0
    · by_cases h2 : stakeW 1048576 rs ds = 0
      · intro x hx
        rcases List.mem_append.1 hx with hx | hx
        · exact stakeW_page rs [] fr h1 x hx
        · exact stakeW_page ds rs fd h2 x hx
      · simp [h1, h2] at h
    · simp [h1] at h
set_option maxRecDepth 100000 in
set_option maxHeartbeats 4000000 in
theorem grounds_g {w : World} {vr vd vw : Value} {rs ds ws : List Sp} (hr : U64.SV w vr rs) (hd : U64.SV w vd ds) (fr : Fits 18446744073709551615 rs) (fd : Fits 18446744073709551615 ds) (h0 : refW rs ds = 0) (hw : U64.SV w vw ws) (fw : Fits 18446744073709551615 ws) (hlw : ws.length ≤ 1152921504606846976) :
    Calls Tryz.prog 6 #[.agg #[vr, vd], vw] w fun e w' => ∃ m v base B V, e = .returned (.tuple #[.pointer (some ⟨m, 0, none⟩), .pointer (some ⟨v, 0, none⟩)]) ∧ Hid (GMg w w' base m B V v vr vd rs ds (layF (rs ++ ds) ws) (layF (rs ++ ds) ws) ws.length ws.length) := by
  have HB0 : Hid (Below w.heap.size w (w.alloc (Obj.cells #[vr, vd] 24))) := (Below.refl _ _).alloc (Nat.le_refl _) _
  have HR0 : Hid (U64.SV w vr rs) := hr
  have HD0 : Hid (U64.SV w vd ds) := hd
  have HW0 : Hid (U64.SV w vw ws) := hw
  have HFw : Hid (Fits 18446744073709551615 ws) := fw
  have HSn := Lib.hid (refW_sane fr fd h0)
  have HPg := Lib.hid (refW_pgd fr fd h0)
  have HX0 : Hid ((w.alloc (Obj.cells #[vr, vd] 24)).cell? ⟨w.heap.size, 0, none⟩ = some vr ∧ (w.alloc (Obj.cells #[vr, vd] 24)).cell? ⟨w.heap.size, 1, none⟩ = some vd) := U64.new2 rfl vr vd _
  have HRf : Hid (Calls Tryz.prog 7 #[.agg #[vr, vd]] (w.alloc (Obj.cells #[vr, vd] 24)) fun e w' => e = .returned (.int .i64 0) ∧ Below (w.alloc (Obj.cells #[vr, vd] 24)).heap.size (w.alloc (Obj.cells #[vr, vd] 24)) w') := by
    have h := refuses_any (hr.below HB0.out (Nat.le_refl _)) (hd.below HB0.out (Nat.le_refl _)) fr fd
    rw [h0] at h
    exact h
  have HNw : Hid (∀ W, Below w.heap.size w W → Calls Tryz.prog 16 #[.agg #[vr, vd]] W fun e w' => ∃ m B V, e = .returned (.tuple #[.pointer (some ⟨m, 0, none⟩), .int .i64 0]) ∧ Hid (Below W.heap.size W w') ∧ Hid (Mac w' m B V (fun _ => none) (fun _ => 0) rs ds 0 0 0 ∧ ∀ j, Mine m B V (fun _ => none) j → W.heap.size ≤ j)) := fun W hW => by
    refine (new_any (hr.below hW (Nat.le_refl _)) (hd.below hW (Nat.le_refl _)) fr fd).mono ?_
    rintro e w' ⟨pm, rfl, hb, hm⟩
    rcases hm.out with ⟨h1, _⟩ | ⟨_, m, B, V, rfl, h2, h3⟩
    · exact absurd h0 h1
    · exact ⟨m, B, V, by rw [h0], hb, h2, h3⟩
  obtain ⟨aw, cw, rfl, hc1, hc2, hc3, hc4, hc5⟩ := hw
  unfold maxLen at hc2
  have HC := Lib.hid hc5
  obtain ⟨N, hN⟩ : ∃ N, N = ws.length := ⟨_, rfl⟩
  have HN : Hid (N = ws.length) := hN
  rw [← hN] at hc1 hlw HW0
  rw [← hN]
  clear hr hd fr fd fw hc3 hc4 hc5 h0 hN
  obtain ⟨x0, x1⟩ := HX0.out
  go_enter Tryz.func6, Tryz.ntmps6
  go_wp2_with fail
  refine HRf.out.mono ?_
  rintro e w1 ⟨rfl, hb1⟩
  have HB1 : Hid (Below w.heap.size w w1) := HB0.out.trans (hb1.mono HB0.out.size)
  have y0 : w1.cell? ⟨w.heap.size, 0, none⟩ = some vr := (hb1.cell (p := ⟨w.heap.size, 0, none⟩) (by simp)).trans HX0.out.1
  have y1 : w1.cell? ⟨w.heap.size, 1, none⟩ = some vd := (hb1.cell (p := ⟨w.heap.size, 1, none⟩) (by simp)).trans HX0.out.2
  have hl1 : w.heap.size < w1.heap.size := by have := hb1.size; simp at this; omega
  have HC1 := Lib.hid (HNw.out w1 HB1.out)
  clear HRf HNw HX0 x0 x1 hb1
  go_wp2_with fail
  refine HC1.out.mono ?_
  rintro e w2 ⟨m, B, V, rfl, HB2, HM2⟩
  have z0 : w2.cell? ⟨w.heap.size, 0, none⟩ = some vr := (HB2.out.cell (p := ⟨w.heap.size, 0, none⟩) hl1).trans y0
  have z1 : w2.cell? ⟨w.heap.size, 1, none⟩ = some vd := (HB2.out.cell (p := ⟨w.heap.size, 1, none⟩) hl1).trans y1
  have HB2' : Hid (Below w.heap.size w w2) := HB1.out.trans (HB2.out.mono HB1.out.size)
  have hl2 : w1.heap.size ≤ w2.heap.size := HB2.out.size
  clear HC1 y0 y1
  go_wp2_with fail
  refine rnewW_any.mono ?_
  rintro e w3 ⟨v, rfl, HV3, HB3⟩
  have HG3 : Hid (GMg w w3 w2.heap.size m B V v vr vd rs ds (fun _ => 0, 0, 0) (fun _ => 0, 0, 0) 0 0) := ⟨_, 0, Nat.le_refl _, HM2.out.1.below HB3.out.1, fun j hj => Nat.le_trans (Nat.le_of_lt hl1) (HM2.out.2 j hj), fun j hj => HM2.out.1.mx.mine_lt hj, by omega, HB3.out.1.size, HB2'.out.trans (HB3.out.1.mono HB2'.out.size), _, [], 0, Nat.le_refl _, ⟨HB3.out.2, HV3.out, World.ownsRow_nil w3 _ _ 2, by simp, Pn.nil, by simp, fun _ => Nat.zero_lt_succ _, fun _ _ => rfl⟩, by simp⟩
  generalize w2.heap.size = base at HG3
  clear HM2 HB2 HB2' HV3 HB3 z0 z1 HB1 hl1 hl2 HB0
  go_wp2_with fail
  go_loopw [9] (fun iv wr => ∃ i : Nat, i ≤ N ∧ iv = .int .i64 (i : Int) ∧ Hid (GMg w wr base m B V v vr vd rs ds (layF (rs ++ ds) (ws.take i)) (layF (rs ++ ds) (ws.take i)) i i)) (fun iv _ => N - (intOf iv).toNat)
  case atStart => exact ⟨0, Nat.zero_le _, rfl, HG3⟩
  case round =>
    obtain ⟨i, hi, rfl, HG⟩ := hrel
    by_cases hlt : i < N
    · have qi : (i : Int) < (N : Int) := by omega
      have hil : i < ws.length := by rw [← HN.out]; exact hlt
      have HBr : Hid (Below w.heap.size w wr) := by obtain ⟨_, _, _, _, _, _, _, _, h, _⟩ := HG.out; exact h
      obtain ⟨g, off, rfl, d0, d1⟩ := sv_at (HW0.out.below HBr.out (Nat.le_refl _)) i hil
      obtain ⟨p0, p1, p2, p3⟩ := HFw.out _ (List.getElem_mem hil)
      have HLe := Lib.hid (layF_le (rs ++ ds) ws i (by omega)).2
      have HSt : Hid (layF (rs ++ ds) (ws.take (i + 1)) = stF (rs ++ ds) (ws[i]'hil).1.toNat (ws[i]'hil).2.toNat (layF (rs ++ ds) (ws.take i))) := by
        show _ = _
        rw [List.take_add_one, List.getElem?_eq_getElem hil, show (some (ws[i]'hil)).toList = [ws[i]'hil] from rfl, layF_snoc]
      generalize layF (rs ++ ds) (ws.take i) = P at *
      generalize hxi : ws[i] = x at *
      obtain ⟨x1, x2⟩ := x
      obtain ⟨a, rfl⟩ : ∃ a : Nat, x1 = (a : Int) := ⟨x1.toNat, by simp only at p0; omega⟩
      obtain ⟨val, rfl⟩ : ∃ a : Nat, x2 = (a : Int) := ⟨x2.toNat, by simp only at p2; omega⟩
      simp only [Int.toNat_natCast] at p0 p1 p2 p3 d0 d1 HSt
      have hP : P.2.2 ≤ i := HLe.out
      have HS1 : Hid (∀ W, Below wr.heap.size wr W → Calls Tryz.prog 17 #[.pointer (some ⟨m, 0, none⟩), .int .u64 (a : Int), .int .i64 8, .int .u64 (val : Int)] W fun e w' => (∃ f, e = .returned f) ∧ Hid (GMg w w' base m B V v vr vd rs ds (stF (rs ++ ds) a val P) P (i + 1) i)) := fun W hW => (gmg_store1 (HG.out.below hW) (by omega) (by omega) (by omega) (by omega)).mono (fun e w' h => by obtain ⟨_, _, _, h1, h2⟩ := h; exact ⟨⟨_, h1⟩, h2⟩)
      have HS2 : Hid (∀ wq W, GMg w wq base m B V v vr vd rs ds (stF (rs ++ ds) a val P) P (i + 1) i → Below wq.heap.size wq W → Calls Tryz.prog 11 #[.pointer (some ⟨v, 0, none⟩), .int .u64 (a : Int), .int .i64 8, .int .u64 (val : Int)] W fun e w' => (∃ f, e = .returned f) ∧ Hid (GMg w w' base m B V v vr vd rs ds (layF (rs ++ ds) (ws.take (i + 1))) (layF (rs ++ ds) (ws.take (i + 1))) (i + 1) (i + 1))) := fun wq W hG hW => (gmg_store2 (hG.below hW) HR0.out HD0.out (by have := HSn.out.2; omega) (by omega) (by omega) (by omega) HPg.out).mono (fun e w' h => by obtain ⟨_, _, _, h1, h2⟩ := h; rw [HSt.out]; exact ⟨⟨_, h1⟩, h2⟩)
      have HXi : Hid (ws[i] = ((a : Int), (val : Int))) := hxi
      have HBd : Hid (Below wr.heap.size wr wr.drew) := (Below.refl _ _).drew
      clear hxi p0 p1 p2 p3
      go_wp2_with fail
      go_region_with (go_at_call 17; refine (HS1.out _ HBd.out).mono ?_; rintro e w4 ⟨⟨f, rfl⟩, HG4⟩)
      all_goals
        have HB4 : Hid (Below w.heap.size w w4) := by obtain ⟨_, _, _, _, _, _, _, _, h, _⟩ := HG4.out; exact h
        obtain ⟨g', off', hgo, e0, e1⟩ := sv_at (HW0.out.below HB4.out (Nat.le_refl _)) i hil
        cases hgo
        rw [HXi.out] at e0 e1
        simp only at e0 e1
        have HBd4 : Hid (Below w4.heap.size w4 w4.drew) := (Below.refl _ _).drew
        clear d0 d1 HS1 HBd
        go_wp2_with fail
        go_region_with (go_at_call 11; refine (HS2.out _ _ HG4.out HBd4.out).mono ?_; rintro e w5 ⟨⟨f', rfl⟩, HG5⟩)
        all_goals
          go_wp2_with fail
          go_roundw
          case rel => exact ⟨i + 1, by omega, by go_num, HG5⟩
          case measure => simp [intOf]; omega
    · obtain rfl : i = N := by omega
      go_wp2_with fail
      go_ret2
      have h := HG.out
      rw [List.take_of_length_le (by rw [← HN.out]; exact Nat.le_refl _)] at h
      exact ⟨m, v, base, B, V, rfl, h⟩
end Go.Proofs.YtdkhhofgfbnmkaaGreat
