import Derived.Test.YtdkhhofgfbnmkaaGreatPf44
import Derived.Test.YtdkhhofgfbnmkaaGreatPf15
import Derived.Test.YtdkhhofgfbnmkaaGreatPf38
import Derived.Test.YtdkhhofgfbnmkaaGreatPf24
import Derived.Test.YtdkhhofgfbnmkaaGreatPf40
/- Load, Fetch, Store over the tape. Own work. -/
namespace Go.Proofs.YtdkhhofgfbnmkaaGreat
open Go.RowKit Go.Maps Go.Proofs.YtdkhhofgfbnmkaaGreat.Sp Wk
set_option maxRecDepth 100000 in
set_option maxHeartbeats 2000000 in
theorem wload_t {w : World} {w0 : World} {m base : Nat} {vr vd vp : Value} {ps : List (Int × Nat)} {M : Nat → Nat} {rs ds : List Sp} {L S n t v k : Nat} (h : Ty w m w0 base vr vd vp ps M rs ds L S n) (hL : L ≤ 4611686018427370000) (ht : t ≤ 18446744073709551615) (hn : n ≤ 4611686018427370000) (hk : Wide k) :
    Calls Tryz.prog 14 #[MemT m, .int .u64 (t : Int), .int .u64 (v : Int), .int .i64 (k : Int)] w fun e w' => e = .returned (.tuple #[.int .u64 ((takeV (rs ++ ds) M t v 1 k).1 : Int), FaultV (takeV (rs ++ ds) M t v 1 k).2.1 ((takeV (rs ++ ds) M t v 1 k).2.2 : Int)]) ∧ Hid (Ty w' m w0 base vr vd vp ps M rs ds (L + tkC (rs ++ ds) M t v 1 k) S (n + 32)) ∧ Hid (Keeps (fun j => j = m) w w') := by
  have HM : Hid (Ty w m w0 base vr vd vp ps M rs ds L S n) := h
  have hml := h.lt
  have HT := Lib.hid (take_t (acc := 1) (v := v) (h.below ((Below.refl w.heap.size _).alloc (Nat.le_refl _) (Obj.cells #[.int .i64 0, .int .u64 0] 57))) (by omega) ht hn hk)
  generalize takeV (rs ++ ds) M t v 1 k = r at *
  obtain ⟨z, why, x⟩ := r
  simp only at HT ⊢
  unfold MemT at HT ⊢
  clear h
  go_enter Tryz.func14, Tryz.ntmps14
  go_wp2_with fail
  refine HT.out.mono ?_
  rintro e w1 ⟨rfl, HM1, HK1⟩
  have HX1 : Hid (BoxF w1 w.heap.size 0 0) := (BoxF.new w 0 0).keeps HK1.out (by omega)
  obtain ⟨x0, x1, f0, f1⟩ := HX1.out.cells
  unfold FaultV
  clear HT
  go_wp2_with fail
  obtain ⟨d0, d1, _⟩ := (HX1.out.set why x).cells
  refine bodyPost_ret (v := .tuple #[.int .u64 (z : Int), .agg #[.int .i64 why, .int .u64 (x : Int)]]) (by simp [results, Tryz.results14, go_sem, d0, d1]) rfl ?_
  have hk2 := Keeps.two w1 w.heap.size (.int .i64 why) (.int .u64 (x : Int))
  have hk1 : Keeps (fun j => j = m) w w1 := (Keeps.alloc (S := fun j => j = m) w _).trans HK1.out (fun _ _ e => e)
  exact ⟨rfl, HM1.out.keeps hk2 (fun j hj e => by have := HM.out.mine_lt hj; omega), hk1.trans hk2 (fun i hi e => absurd e (by omega))⟩
set_option maxRecDepth 100000 in
set_option maxHeartbeats 2000000 in
theorem wfetch_t {w : World} {w0 : World} {m base : Nat} {vr vd vp : Value} {ps : List (Int × Nat)} {M : Nat → Nat} {rs ds : List Sp} {L S n t v k : Nat} (h : Ty w m w0 base vr vd vp ps M rs ds L S n) (hL : L ≤ 4611686018427370000) (ht : t ≤ 18446744073709551615) (hn : n ≤ 4611686018427370000) (hk : Wide k) :
    Calls Tryz.prog 15 #[MemT m, .int .u64 (t : Int), .int .u64 (v : Int), .int .i64 (k : Int)] w fun e w' => e = .returned (.tuple #[.int .u64 ((takeV (rs ++ ds) M t v 3 k).1 : Int), FaultV (takeV (rs ++ ds) M t v 3 k).2.1 ((takeV (rs ++ ds) M t v 3 k).2.2 : Int)]) ∧ Hid (Ty w' m w0 base vr vd vp ps M rs ds (L + tkC (rs ++ ds) M t v 3 k) S (n + 32)) ∧ Hid (Keeps (fun j => j = m) w w') := by
  have HM : Hid (Ty w m w0 base vr vd vp ps M rs ds L S n) := h
  have hml := h.lt
  have HT := Lib.hid (take_t (acc := 3) (v := v) (h.below ((Below.refl w.heap.size _).alloc (Nat.le_refl _) (Obj.cells #[.int .i64 0, .int .u64 0] 57))) (by omega) ht hn hk)
  generalize takeV (rs ++ ds) M t v 3 k = r at *
  obtain ⟨z, why, x⟩ := r
  simp only at HT ⊢
  unfold MemT at HT ⊢
  clear h
  go_enter Tryz.func15, Tryz.ntmps15
  go_wp2_with fail
  refine HT.out.mono ?_
  rintro e w1 ⟨rfl, HM1, HK1⟩
  have HX1 : Hid (BoxF w1 w.heap.size 0 0) := (BoxF.new w 0 0).keeps HK1.out (by omega)
  obtain ⟨x0, x1, f0, f1⟩ := HX1.out.cells
  unfold FaultV
  clear HT
  go_wp2_with fail
  obtain ⟨d0, d1, _⟩ := (HX1.out.set why x).cells
  refine bodyPost_ret (v := .tuple #[.int .u64 (z : Int), .agg #[.int .i64 why, .int .u64 (x : Int)]]) (by simp [results, Tryz.results15, go_sem, d0, d1]) rfl ?_
  have hk2 := Keeps.two w1 w.heap.size (.int .i64 why) (.int .u64 (x : Int))
  have hk1 : Keeps (fun j => j = m) w w1 := (Keeps.alloc (S := fun j => j = m) w _).trans HK1.out (fun _ _ e => e)
  exact ⟨rfl, HM1.out.keeps hk2 (fun j hj e => by have := HM.out.mine_lt hj; omega), hk1.trans hk2 (fun i hi e => absurd e (by omega))⟩
/-- what Store answers and leaves -/
def WStT (w : World) (m : Nat) (w0 : World) (base : Nat) (vr vd vp : Value) (ps : List (Int × Nat)) (M : Nat → Nat) (rs ds : List Sp) (L S n t v k val : Nat) (e : Ending) (w' : World) : Prop :=
  (∃ why x, reachF (rs ++ ds) M t v 2 k = some (why, x) ∧ e = .returned (FaultV why (x : Int)) ∧ Ty w' m w0 base vr vd vp ps M rs ds L S (n + 32) ∧ Keeps (fun j => j = m) w w') ∨
  (reachF (rs ++ ds) M t v 2 k = none ∧ (∀ j, j < k → (ad (rs ++ ds) M t v 2 j).2 = 0 ∧ On (rs ++ ds) ((ad (rs ++ ds) M t v 2 j).1 : Int)) ∧ e = .returned (FaultV 0 0) ∧ ∃ vp' ps', Ty w' m w0 base vr vd vp' ps' (stM (rs ++ ds) M t v val k) rs ds L (S + k) (n + 32) ∧ Kf m vp ps w vp' ps' w' ∧ ps'.map Prod.fst = stN (rs ++ ds) M t v (ps.map Prod.fst) k)
/-- where Store's loop stands -/
def StT (w w2 : World) (m : Nat) (w0 : World) (base : Nat) (vr vd vp : Value) (ps : List (Int × Nat)) (M : Nat → Nat) (rs ds : List Sp) (L S n t v k val g gp cp bs q : Nat) (wr : World) : Prop :=
  RowA wr g (upA (rs ++ ds) M t v 2 k k) ∧ Own wr bs (.slice (some ⟨gp, 0, none⟩) 8 cp) (Pl.le 8 val) ∧ BoxF wr w.heap.size 0 0 ∧ Keeps (Fo m vp ps) w wr ∧ w2.heap.size ≤ wr.heap.size ∧ ∃ vp' ps', Ty wr m w0 base vr vd vp' ps' (stM (rs ++ ds) M t v val q) rs ds L (S + q) (n + 16 + q) ∧ (∀ j, Fo m vp' ps' j → Fo m vp ps j ∨ w2.heap.size ≤ j) ∧ ps'.map Prod.fst = stN (rs ++ ds) M t v (ps.map Prod.fst) q
theorem StT.below {w w2 w0 : World} {m base : Nat} {vr vd vp : Value} {ps : List (Int × Nat)} {M : Nat → Nat} {rs ds : List Sp} {L S n t v k val g gp cp bs q : Nat} {wr wr' : World} (h : StT w w2 m w0 base vr vd vp ps M rs ds L S n t v k val g gp cp bs q wr) (hb : Below wr.heap.size wr wr') : StT w w2 m w0 base vr vd vp ps M rs ds L S n t v k val g gp cp bs q wr' := by
  obtain ⟨h1, h2, h3, h4, h5, vp', ps', h6, h7⟩ := h
  exact ⟨h1.below hb, h2.below hb, h3.below hb, h4.trans (Keeps.of_below (S := fun _ => False) hb) (fun _ _ h => h.elim), Nat.le_trans h5 hb.size, vp', ps', h6.below hb, h7⟩
theorem sta_stT {w w2 w0 : World} {m base : Nat} {vr vd vp : Value} {ps : List (Int × Nat)} {M : Nat → Nat} {rs ds : List Sp} {L S n t v k val g gp cp bs q : Nat} {wr : World} (h : StT w w2 m w0 base vr vd vp ps M rs ds L S n t v k val g gp cp bs q wr) (hm : Ty w m w0 base vr vd vp ps M rs ds L S n) (hS : S ≤ 4611686018427370000) (hg : w.heap.size < g ∧ g < w2.heap.size) (hgp : w.heap.size < gp ∧ gp < w2.heap.size) (hq : q < 8) (hn : n ≤ 4611686018427370000) (hon : On (rs ++ ds) ((ad (rs ++ ds) M t v 2 q).1 : Int)) (W : World) (hW : Below wr.heap.size wr W) :
    Calls Tryz.prog 143 #[.agg #[.pointer (some ⟨m, 0, none⟩)], .int .u64 ((ad (rs ++ ds) M t v 2 q).1 : Int), .int .i64 1, .int .u64 (((Pl.le 8 val).getD q 0 : Nat) : Int)] W fun e w' => e = .returned (.agg #[.int .i64 0, .int .u64 0]) ∧ w'.cell? ⟨gp, q, none⟩ = some (.int .u8 (((Pl.le 8 val).getD q 0 : Nat) : Int)) ∧ Hid (StT w w2 m w0 base vr vd vp ps M rs ds L S n t v k val g gp cp bs (q + 1) w') ∧ Hid (∀ b x y, wr.heap.size ≤ b → BoxF W b x y → BoxF w' b x y) ∧ Hid (∀ b u y, wr.heap.size ≤ b → b < W.heap.size → StT w w2 m w0 base vr vd vp ps M rs ds L S n t v k val g gp cp bs (q + 1) ((w'.setCell ⟨b, 0, none⟩ u).setCell ⟨b, 1, none⟩ y)) := by
  have hml := hm.lt
  have hft : ∀ j, Fo m vp ps j → j < w.heap.size := fun j hj => hm.mine_lt (.inl hj)
  have h' := h.below hW
  obtain ⟨g1, g2, g3, g4, g5, vp', ps', hmxr, g7, g8⟩ := h
  have hlow : ∀ j, Fo m vp' ps' j → j < wr.heap.size := fun j hj => hmxr.mine_lt (.inl hj)
  obtain ⟨h1, h2, h3, h4, h5, _⟩ := h'
  obtain ⟨X, l3, hmac⟩ := hmxr.below hW
  have hmr := hmxr.lt
  have hbm := hmxr.base_le
  have hz : (Pl.le 8 val).getD q 0 < 256 := by
    rw [List.getD_eq_getElem?_getD, List.getElem?_eq_getElem (by rw [Pl.le_length]; exact hq)]
    exact Pl.le_small 8 val _ (List.getElem_mem _)
  have ha := adrF_le (rs ++ ds) M t (vv v q) 2
  refine (tstore_any (k := 1) (val := (Pl.le 8 val).getD q 0) hmac ha (Or.inl rfl) (by omega) (by omega) (by have := hW.size; omega)).mono ?_
  rintro e w' ⟨x, b, ho, rfl, _, hok⟩
  have hb : b = false := by
    cases b with
    | false => rfl
    | true =>
      obtain ⟨i, hi, _, _, hnn, _⟩ := ho.1 rfl
      obtain rfl : i = 0 := by omega
      have hon' : On (rs ++ ds) ((adrF (rs ++ ds) M t (vv v q) 2).1 : Int) := hon
      exact absurd (by simpa using hon') hnn
  subst hb
  obtain ⟨hx, _⟩ := ho.2 rfl
  subst hx
  obtain ⟨vp2, ps2, hm2, hk2, hn2⟩ := hok rfl
  have hle1 : (Pl.le 8 ((Pl.le 8 val).getD q 0)).take 1 = [(Pl.le 8 val).getD q 0] := by
    generalize (Pl.le 8 val).getD q 0 = z at hz
    show [z % 256] = [z]
    rw [Nat.mod_eq_of_lt hz]
  rw [hle1] at hm2
  have hk := hk2.keeps
  have hno : ∀ j, w.heap.size ≤ j → j < w2.heap.size → ¬ Fo m vp' ps' j := fun j hj1 hj2 hj => by
    rcases g7 j hj with hj | hj
    · have := hft j hj; omega
    · omega
  have hown' := h2.keeps hk (fun k e => by cases e; exact hno gp (by omega) hgp.2)
  have hrow' := h1.keeps hk (hno g (by omega) hg.2)
  have hbx' := h3.keeps hk (hno _ (Nat.le_refl _) (by omega))
  have hks' := h4.trans hk (fun i hi e => (g7 i e).resolve_right (by omega))
  have hmx' : Ty w' m w0 base vr vd vp2 ps2 (stM (rs ++ ds) M t v val (q + 1)) rs ds L (S + (q + 1)) (n + 16 + (q + 1)) := ⟨X, by omega, hm2⟩
  have hgr : ∀ j, Fo m vp2 ps2 j → Fo m vp ps j ∨ w2.heap.size ≤ j := fun j hj => by
    rcases hk2.grown j hj with hj | hj
    · exact g7 j hj
    · exact .inr (by omega)
  have hnn : ps2.map Prod.fst = stN (rs ++ ds) M t v (ps.map Prod.fst) (q + 1) := by rw [hn2, g8]; rfl
  refine ⟨rfl, hown'.cell q (by rw [Pl.le_length]; exact hq), ⟨hrow', hown', hbx', hks', Nat.le_trans h5 hk.size, vp2, ps2, hmx', hgr, hnn⟩, fun b x y hb hbox => hbox.keeps hk (fun hj => by have := hlow b hj; omega), fun b u y hb1 hb2 => ?_⟩
  have hk5 := Keeps.two w' b u y
  refine ⟨hrow'.keeps hk5 (show ¬ g = b by omega), hown'.keeps hk5 (fun k e => by cases e; show ¬ gp = b; omega), hbx'.keeps hk5 (show ¬ w.heap.size = b by omega), hks'.trans hk5 (fun i hi e => absurd (show i = b from e) (by have := h4.size; have := hW.size; omega)), Nat.le_trans (Nat.le_trans h5 hk.size) hk5.size, vp2, ps2, hmx'.keeps hk5 (fun j hj e => ?_), hgr, hnn⟩
  have e : j = b := e
  rcases hj with hj | hj
  · rcases hk2.grown j hj with hj | hj
    · have := hlow j hj; omega
    · omega
  · have := hmxr.mine_lt (.inr hj); omega
set_option maxRecDepth 100000 in
set_option maxHeartbeats 8000000 in
theorem wstore_t {w : World} {w0 : World} {m base : Nat} {vr vd vp : Value} {ps : List (Int × Nat)} {M : Nat → Nat} {rs ds : List Sp} {L S n t v k val : Nat} (h : Ty w m w0 base vr vd vp ps M rs ds L S n) (hS : S ≤ 4611686018427370000) (ht : t ≤ 18446744073709551615) (hval : val ≤ 18446744073709551615) (hn : n ≤ 4611686018427370000) (hk : Wide k) :
    Calls Tryz.prog 24 #[MemT m, .int .u64 (t : Int), .int .u64 (v : Int), .int .i64 (k : Int), .int .u64 (val : Int)] w (WStT w m w0 base vr vd vp ps M rs ds L S n t v k val) := by
  have HM : Hid (Ty w m w0 base vr vd vp ps M rs ds L S n) := h
  have hml := h.lt
  have k8 : k ≤ 8 := by rcases hk with h | h | h | h <;> omega
  have HRe : Hid (Calls Tryz.prog 49 #[MemT m, .int .u64 (t : Int), .int .u64 (v : Int), .int .i64 (k : Int), .int .i64 2] (w.alloc (Obj.cells #[.int .i64 0, .int .u64 0] 57)) fun e w' => ReachP (w.alloc (Obj.cells #[.int .i64 0, .int .u64 0] 57)) (rs ++ ds) M t v 2 k e w' ∧ Hid (Ty w' m w0 base vr vd vp ps M rs ds L S (n + 16)) ∧ Hid (Keeps (fun j => j = m) (w.alloc (Obj.cells #[.int .i64 0, .int .u64 0] 57)) w')) := reached_t (h.below ((Below.refl _ _).alloc (Nat.le_refl _) _)) ht (by omega) hk
  have hme : ∀ (w : World) (p : Value), (method 319 46 (.agg #[p]) "Store").run Tryz.prog w = .ok (143, .agg #[p]) w := fun _ _ => by kernel_rfl
  have hna : ∀ (W : World) (p : Value), (nilAhead 319 46 (.agg #[p]) "Store").run Tryz.prog W = .ok (some false) W := fun _ _ => by kernel_rfl
  have HX0 : Hid (BoxF (w.alloc (Obj.cells #[.int .i64 0, .int .u64 0] 57)) w.heap.size 0 0) := BoxF.new w 0 0
  unfold MemT at HRe ⊢
  clear hk h
  go_enter Tryz.func24, Tryz.ntmps24
  go_wp2_with fail
  refine HRe.out.mono ?_
  rintro e w1 ⟨hP, HM1, HK1⟩
  have HX1 : Hid (BoxF w1 w.heap.size 0 0) := HX0.out.keeps HK1.out (by omega)
  have HKw1 : Hid (Keeps (fun j => j = m) w w1) := (Keeps.alloc (S := fun j => j = m) w _).trans HK1.out (fun _ _ e => e)
  have hlt1 := HX1.out.lt
  clear HRe HX0 HK1
  rcases hP with ⟨why, x, hre, rfl⟩ | ⟨hre, hall, g, rfl, hg, hrow⟩
  · have HRe : Hid (reachF (rs ++ ds) M t v 2 k = some (why, x)) := hre
    have h0 := reach_why hre
    have h0e : (why == 0) = false := by simpa using h0
    obtain ⟨W3, hW3⟩ : ∃ W3, w1.alloc (Obj.cells #[.int .i64 why, .int .u64 (x : Int)] 57) = W3 := ⟨_, rfl⟩
    have HF3 : Hid (BoxF W3 w1.heap.size why x) := hW3 ▸ BoxF.new w1 why x
    have HX3 : Hid (BoxF W3 w.heap.size 0 0) := hW3 ▸ HX1.out.below ((Below.refl _ _).alloc (Nat.le_refl _) _)
    have HB3 : Hid (Below w1.heap.size w1 W3) := hW3 ▸ (Below.refl _ _).alloc (Nat.le_refl _) _
    have hne : w.heap.size ≠ w1.heap.size := by omega
    obtain ⟨x0, x1, f0, f1⟩ := HX3.out.cells
    obtain ⟨y0, y1, _, _⟩ := HF3.out.cells
    unfold FaultV
    clear hre
    go_wp2_with fail
    clear hW3
    obtain ⟨d0, d1, _⟩ := (HX3.out.set why x).cells
    refine bodyPost_ret (v := .agg #[.int .i64 why, .int .u64 (x : Int)]) (by simp [results, Tryz.results24, go_sem, d0, d1]) rfl ?_
    have hk2 := Keeps.two W3 w.heap.size (.int .i64 why) (.int .u64 (x : Int))
    exact .inl ⟨why, x, HRe.out, rfl, ((HM1.out.mono (by omega)).below HB3.out).keeps hk2 (fun j hj e => by have := HM.out.mine_lt hj; omega), (HKw1.out.trans (Keeps.of_below (S := fun _ => False) HB3.out) (fun _ _ h => h.elim)).trans hk2 (fun i hi e => absurd e (by omega))⟩
  · have HRe : Hid (reachF (rs ++ ds) M t v 2 k = none) := hre
    have HAll : Hid (∀ j, j < k → (ad (rs ++ ds) M t v 2 j).2 = 0 ∧ On (rs ++ ds) ((ad (rs ++ ds) M t v 2 j).1 : Int)) := hall
    have HRw : Hid (RowA w1 g (upA (rs ++ ds) M t v 2 k k)) := hrow
    have hgl : w.heap.size < g ∧ g < w1.heap.size := ⟨by simp at hg; omega, hrow.lt⟩
    obtain ⟨hg1, hg2⟩ := hgl
    have HPut := Lib.hid (put_nil (n := val) (w1.alloc (Obj.cells #[.int .i64 0, .int .u64 0] 57)) hval)
    clear hre hall hrow hg
    unfold FaultV
    go_wp2_with fail
    refine HPut.out.mono ?_
    rintro e w2 ⟨vsl, rfl, hown, hb2⟩
    obtain ⟨gp, cp, hvp, hgp, hgp2, hcp, hcm⟩ := hown.form (by rw [Pl.le_length]; omega)
    rw [Pl.le_length] at hvp hcp
    subst hvp
    have HOw : Hid (Own w2 (w1.alloc (Obj.cells #[.int .i64 0, .int .u64 0] 57)).heap.size (.slice (some ⟨gp, 0, none⟩) 8 cp) (Pl.le 8 val)) := hown
    have HB2 : Hid (Below w1.heap.size w1 w2) := ((Below.refl _ _).alloc (Nat.le_refl _) _).trans (hb2.mono (by simp))
    have hgp1 : w1.heap.size < gp := by simp at hgp; omega
    have HX2 : Hid (BoxF w2 w.heap.size 0 0) := HX1.out.below HB2.out
    have HRw2 : Hid (RowA w2 g (upA (rs ++ ds) M t v 2 k k)) := HRw.out.below HB2.out
    have HM2 : Hid (Ty w2 m w0 base vr vd vp ps M rs ds L S (n + 16)) := HM1.out.below HB2.out
    have HKw2 : Hid (Keeps (fun j => j = m) w w2) := HKw1.out.trans (Keeps.of_below (S := fun _ => False) HB2.out) (fun _ _ h => h.elim)
    clear hown hb2 hgp HPut HX1 HRw HM1 HKw1
    have HSt0 : Hid (StT w w2 m w0 base vr vd vp ps M rs ds L S n t v k val g gp cp (w1.alloc (Obj.cells #[.int .i64 0, .int .u64 0] 57)).heap.size 0 w2) := ⟨HRw2.out, HOw.out, HX2.out, HKw2.out.mono (fun _ _ e => .inl e), Nat.le_refl _, vp, ps, HM2.out, fun _ h => .inl h, rfl⟩
    have hgg : g < w2.heap.size := HRw2.out.lt
    generalize hbs : (w1.alloc (Obj.cells #[.int .i64 0, .int .u64 0] 57)).heap.size = bs at *
    clear hbs HRw2 HOw HX2 HKw2 HM2
    go_wp2_with fail
    go_loopw [33] (fun iv wr => ∃ q : Nat, q ≤ k ∧ iv = .int .i64 (q : Int) ∧ Hid (StT w w2 m w0 base vr vd vp ps M rs ds L S n t v k val g gp cp bs q wr)) (fun iv _ => k - (intOf iv).toNat)
    case atStart => exact ⟨0, Nat.zero_le _, rfl, HSt0⟩
    case round =>
      clear HSt0
      obtain ⟨q, hq, rfl, HS⟩ := hrel
      by_cases hlt : q < k
      · have y0 := HS.out.1.cell q (by rw [upA_len]; exact hlt)
        rw [upA_get _ _ _ _ _ _ _ hlt] at y0
        have z0 := HS.out.2.1.cell q (by rw [Pl.le_length]; omega)
        have HCl := Lib.hid (sta_stT HS.out HM.out hS ⟨hg1, hgg⟩ ⟨by omega, hgp2⟩ (by omega) hn (HAll.out q hlt).2)
        have hz : (Pl.le 8 val).getD q 0 < 256 := by
          rw [List.getD_eq_getElem?_getD, List.getElem?_eq_getElem (by rw [Pl.le_length]; omega)]
          exact Pl.le_small 8 val _ (List.getElem_mem _)
        generalize (ad (rs ++ ds) M t v 2 q).1 = r1 at *
        generalize (Pl.le 8 val).getD q 0 = z at *
        have qi : (q : Int) < (k : Int) := by omega
        have q8 : (q : Int) < 8 := by omega
        have q8n : q < 8 := by omega
        have HBd : Hid (Below wr.heap.size wr wr.drew) := (Below.refl _ _).drew
        have hzw : IntKind.u64.wrap (z : Int) = (z : Int) := by rw [IntKind.wrap_u64]; omega
        go_wp2_with fail
        have hnew : gp ≠ wr.heap.size := by have := HS.out.2.2.2.2.1; omega
        go_region_held3 (fun w' => w'.cell? ⟨gp, q, none⟩ = some (.int .u8 ((z : Nat) : Int))) (first | exact (U64.set_other hnew).trans ((U64.set_other hnew).trans z3) | go_keep) (first | (go_at_call 143; first | (refine (HCl.out _ HBd.out).mono ?_; rintro e w3 ⟨rfl, z3, HS3, HZ3, HY3⟩) | (refine (HCl.out _ (HBd.out.alloc HBd.out.size _)).mono ?_; rintro e w3 ⟨rfl, z3, HS3, HZ3, HY3⟩; obtain ⟨k0, k1, k2, k3⟩ := (HZ3.out wr.heap.size 0 0 (Nat.le_refl _) (BoxF.new wr.drew 0 0)).cells)))
        · go_wp2_with fail
          go_roundw
          case rel => exact ⟨q + 1, by omega, by go_num, HS3.out.below ((Below.refl _ _).alloc (Nat.le_refl _) _)⟩
          case measure => simp [intOf]; omega
        all_goals
          go_wp2_with fail
          go_roundw
          case rel => exact ⟨q + 1, by omega, by go_num, HY3.out wr.heap.size _ _ (Nat.le_refl _) (by simp)⟩
          case measure => simp [intOf]; omega
      · obtain rfl : q = k := by omega
        obtain ⟨x0, x1, f0, f1⟩ := HS.out.2.2.1.cells
        have HXr : Hid (BoxF wr w.heap.size 0 0) := HS.out.2.2.1
        go_wp2_with fail
        obtain ⟨d0, d1, _⟩ := (HXr.out.set 0 0).cells
        refine bodyPost_ret (v := .agg #[.int .i64 0, .int .u64 0]) (by simp [results, Tryz.results24, go_sem, d0, d1]) rfl ?_
        have hk2 := Keeps.two wr w.heap.size (.int .i64 0) (.int .u64 0)
        obtain ⟨_, _, _, h4, h5, vp', ps', h6, h7, h8⟩ := HS.out
        refine .inr ⟨HRe.out, HAll.out, rfl, vp', ps', (h6.mono (by omega)).keeps hk2 (fun j hj e => ?_), ⟨h4.trans hk2 (fun i hi e => absurd e (by omega)), fun j hj => (h7 j hj).imp id (fun h => by omega)⟩, h8⟩
        have e : j = w.heap.size := e
        rcases hj with hj | hj
        · rcases h7 j hj with hj | hj
          · have := HM.out.mine_lt (.inl hj); omega
          · omega
        · have := HM.out.mine_lt (.inr hj); omega
end Go.Proofs.YtdkhhofgfbnmkaaGreat
/- WalkPlays: Leaves held against what the document's own Leaves tells: left at any place. Plain mathematics. Own work. -/
namespace Go.Proofs.YtdkhhofgfbnmkaaGreat
open Go.RowKit Go.Maps Go.Proofs.YtdkhhofgfbnmkaaGreat.Sp Wk Lv
/-- what is told at a time: where it begins, where it lies, how many pages, big, write, exec; why not -/
abbrev T7 := Int × Int × Int × Bool × Bool × Bool × Int
def td (x : Slt) : T7 := ((x.1 : Int), (x.2.2.1.1 : Int), (pgs x.2.1 : Int), x.2.2.1.2.2.1, x.2.2.1.2.2.2.1, x.2.2.1.2.2.2.2, x.2.2.2)
/-- how many looks were off the bus, how many were told, 0: it goes on; 1: it was left; 2: something else was told -/
abbrev SP := Nat × Nat × Nat
def lkP (f : Nat → Nat → Ent × Int) (g : Nat → Bool) (s : SP) (fr i lev : Nat) : (Ent × Int) × SP := (f (fr + 8 * i) lev, (s.1 + (if g (fr + 8 * i) then 0 else 1), s.2))
/-- is it what is wanted next? -/
def okP (want : List T7) (i : Nat) (x : Slt) : Prop := want[i]? = some (td x)
open Classical in
noncomputable def ydP (want : List T7) (h : Nat) (s : SP) (x : Slt) : SP := if okP want s.2.1 x then (s.1, s.2.1 + 1, if h < s.2.1 + 1 then 1 else 0) else (s.1, s.2.1, 2)
open Classical in
noncomputable def ctP (want : List T7) (h : Nat) (s : SP) (x : Slt) : Bool := decide (okP want s.2.1 x ∧ ¬ h < s.2.1 + 1)
open Classical in
theorem ctP_no {want : List T7} {h : Nat} {s : SP} {x : Slt} (hh : h < s.2.1 + 1) : ctP want h s x = false := decide_eq_false (fun e => e.2 hh)
open Classical in
theorem ctP_bad {want : List T7} {h : Nat} {s : SP} {x : Slt} (ho : ¬ okP want s.2.1 x) : ctP want h s x = false := decide_eq_false (fun e => ho e.1)
open Classical in
theorem ctP_yes {want : List T7} {h : Nat} {s : SP} {x : Slt} (ho : okP want s.2.1 x) (hh : ¬ h < s.2.1 + 1) : ctP want h s x = true := decide_eq_true ⟨ho, hh⟩
/-- the two machines beside one another -/
def RelP (h : Nat) (t : St SP) (u : St (List Slt)) : Prop :=
  (t.s.2.2 = 0 ∧ t.s.2.1 = u.s.length ∧ t.left = u.left ∧ t.go = u.go) ∨ (t.s.2.2 = 1 ∧ t.go = false ∧ h < t.s.2.1 ∧ t.s.2.1 ≤ u.s.length)
section
variable {f : Nat → Nat → Ent × Int} {g : Nat → Bool} {want : List Slt} {h : Nat}
theorem visit_pre (u : St (List Slt)) (x : Slt) : u.s <+: (visitS ydL ctL u x).s := by
  unfold visitS
  split
  · exact List.prefix_refl _
  · exact List.prefix_append _ _
theorem aft_pre {deep : Nat → Nat → Nat → St (List Slt) → St (List Slt)} (hd : ∀ a b c t, t.s <+: (deep a b c t).s) (u : St (List Slt)) (x : Slt) : u.s <+: (aft ydL ctL deep u x).s := by
  unfold aft
  split
  · exact (visit_pre u x).trans (hd _ _ _ _)
  · exact visit_pre u x
theorem step_pre {deep : Nat → Nat → Nat → St (List Slt) → St (List Slt)} (hd : ∀ a b c t, t.s <+: (deep a b c t).s) (fr virt lev i : Nat) (u : St (List Slt)) : u.s <+: (stepS (lkL f) ydL ctL deep fr virt lev i u).s := by
  by_cases h41 : (lkL f u.s fr i lev).1.2 = 41
  · rw [step_absent h41]
    exact List.prefix_refl _
  · rw [step_aft h41]
    exact aft_pre hd _ _
theorem tab_pre {deep : Nat → Nat → Nat → St (List Slt) → St (List Slt)} (hd : ∀ a b c t, t.s <+: (deep a b c t).s) (fr virt lev : Nat) (u : St (List Slt)) : ∀ i, u.s <+: (tabN (lkL f) ydL ctL deep fr virt lev i u).s
  | 0 => List.prefix_refl _
  | i + 1 => by
    refine (tab_pre hd fr virt lev u i).trans ?_
    rw [tabN]
    split
    · exact step_pre hd _ _ _ _ _
    · exact List.prefix_refl _
theorem want_at {L : List Slt} {x : Slt} (hp : L ++ [x] <+: want) : okP (want.map td) L.length x := by
  unfold okP
  obtain ⟨r, hr⟩ := hp
  rw [← hr]
  simp
theorem visit_rel {t : St SP} {u : St (List Slt)} (x : Slt) (hr : RelP h t u) (hg : t.go = true) (hp : (visitS ydL ctL u x).s <+: want) : RelP h (visitS (ydP (want.map td) h) (ctP (want.map td) h) t x) (visitS ydL ctL u x) := by
  rcases hr with ⟨h1, h2, h3, h4⟩ | ⟨_, h2, _⟩
  · unfold visitS at hp ⊢
    by_cases hx : x.2.2.1.2.1 = true
    · rw [if_pos hx] at hp ⊢
      rw [if_pos hx]
      exact .inl ⟨h1, h2, by show t.left - 1 = u.left - 1; rw [h3], by show decide _ = decide _; rw [h3]⟩
    · rw [if_neg hx] at hp ⊢
      rw [if_neg hx]
      have ho : okP (want.map td) t.s.2.1 x := by rw [h2]; exact want_at hp
      have hl : (ydL u.s x).length = u.s.length + 1 := by show (u.s ++ [x]).length = _; simp
      have hy : ydP (want.map td) h t.s x = (t.s.1, t.s.2.1 + 1, if h < t.s.2.1 + 1 then 1 else 0) := if_pos ho
      by_cases hh : h < t.s.2.1 + 1
      · rw [if_pos hh] at hy
        refine .inr ⟨by show (ydP _ _ _ _).2.2 = 1; rw [hy], ?_, by show h < (ydP _ _ _ _).2.1; rw [hy]; exact hh, by show (ydP _ _ _ _).2.1 ≤ (ydL u.s x).length; rw [hy, hl]; show t.s.2.1 + 1 ≤ _; omega⟩
        show (ctP _ _ _ _ && _) = false
        rw [show ctP (want.map td) h t.s x = false from ctP_no hh]
        rfl
      · rw [if_neg hh] at hy
        refine .inl ⟨by show (ydP _ _ _ _).2.2 = 0; rw [hy], by show (ydP _ _ _ _).2.1 = (ydL u.s x).length; rw [hy, hl]; show t.s.2.1 + 1 = _; omega, by show t.left - 1 = u.left - 1; rw [h3], ?_⟩
        show (ctP (want.map td) h t.s x && decide (1 < t.left)) = (ctL u.s x && decide (1 < u.left))
        rw [show ctP (want.map td) h t.s x = true from ctP_yes ho hh, h3]
        rfl
  · rw [hg] at h2
    cases h2
theorem RelP.later {t : St SP} {u u' : St (List Slt)} (hr : RelP h t u) (hg : t.go = false) (hs : u.s <+: u'.s) (hu : u.go = false → u' = u) : RelP h t u' := by
  rcases hr with ⟨h1, h2, h3, h4⟩ | ⟨h1, h2, h3, h4⟩
  · rw [hg] at h4
    rw [hu h4.symm]
    exact .inl ⟨h1, h2, h3, by rw [hg, h4]⟩
  · exact .inr ⟨h1, h2, h3, Nat.le_trans h4 hs.length_le⟩
theorem tab_rel {dP : Nat → Nat → Nat → St SP → St SP} {dL : Nat → Nat → Nat → St (List Slt) → St (List Slt)} (hpre : ∀ a b c t, t.s <+: (dL a b c t).s) (hst : ∀ a b c t, t.go = false → dL a b c t = t)
    (hd : ∀ a b c t u, RelP h t u → (dL a b c u).s <+: want → RelP h (dP a b c t) (dL a b c u)) (hsp : ∀ a b c t, t.go = false → dP a b c t = t) (fr virt lev : Nat) {t : St SP} {u : St (List Slt)} (hr : RelP h t u) :
    ∀ i, (tabN (lkL f) ydL ctL dL fr virt lev i u).s <+: want → RelP h (tabN (lkP f g) (ydP (want.map td) h) (ctP (want.map td) h) dP fr virt lev i t) (tabN (lkL f) ydL ctL dL fr virt lev i u)
  | 0, _ => hr
  | i + 1, hw => by
    have hpi : (tabN (lkL f) ydL ctL dL fr virt lev i u).s <+: (tabN (lkL f) ydL ctL dL fr virt lev (i + 1) u).s := by
      rw [tabN]
      split
      · exact step_pre hpre _ _ _ _ _
      · exact List.prefix_refl _
    have hi := tab_rel hpre hst hd hsp fr virt lev hr i (hpi.trans hw)
    rw [tabN] at hw hpi
    rw [tabN, tabN]
    generalize tabN (lkP f g) (ydP (want.map td) h) (ctP (want.map td) h) dP fr virt lev i t = T at hi ⊢
    generalize tabN (lkL f) ydL ctL dL fr virt lev i u = U at hi hw hpi ⊢
    cases hg : T.go with
    | false =>
      rw [if_neg (by decide)]
      exact hi.later hg hpi (fun hu => by rw [hu]; rfl)
    | true =>
      rw [if_pos rfl]
      have hug : U.go = true := by
        rcases hi with ⟨_, _, _, h4⟩ | ⟨_, h2, _⟩
        · rw [← h4]; exact hg
        · rw [hg] at h2; cases h2
      rw [hug, if_pos rfl] at hw
      rw [hug, if_pos rfl]
      by_cases h41 : (f (fr + 8 * i) lev).2 = 41
      · rw [step_absent (lk := lkP f g) h41, step_absent (lk := lkL f) h41]
        rcases hi with ⟨h1, h2, h3, h4⟩ | ⟨_, h2, _⟩
        · exact .inl ⟨h1, h2, h3, h4⟩
        · rw [hg] at h2; cases h2
      · rw [step_aft (lk := lkL f) h41] at hw
        rw [step_aft (lk := lkP f g) h41, step_aft (lk := lkL f) h41]
        have hi2 : RelP h { T with s := (lkP f g T.s fr i lev).2 } { U with s := (lkL f U.s fr i lev).2 } := by
          rcases hi with ⟨h1, h2, h3, h4⟩ | ⟨_, h2, _⟩
          · exact .inl ⟨h1, h2, h3, h4⟩
          · rw [hg] at h2; cases h2
        have hg2 : ({ T with s := (lkP f g T.s fr i lev).2 } : St SP).go = true := hg
        have hy : slotS virt lev i (lkP f g T.s fr i lev).1 = slotS virt lev i (lkL f U.s fr i lev).1 := rfl
        rw [hy]
        generalize ({ T with s := (lkP f g T.s fr i lev).2 } : St SP) = T2 at hi2 hg2 ⊢
        generalize ({ U with s := (lkL f U.s fr i lev).2 } : St (List Slt)) = U2 at hi2 hw ⊢
        generalize slotS virt lev i (lkL f U.s fr i lev).1 = y at hw ⊢
        unfold aft at hw ⊢
        have hv : (visitS ydL ctL U2 y).s <+: want := by
          split at hw
          · exact (hpre _ _ _ _).trans hw
          · exact hw
        have hr2 := visit_rel y hi2 hg2 hv
        by_cases ht : y.2.2.1.2.1 = true
        · cases hgv : (visitS ydL ctL U2 y).go with
          | true =>
            rw [hgv, if_pos (by rw [ht]; rfl)] at hw
            rcases hr2 with ⟨h1, h2, h3, h4⟩ | ⟨h1, h2, h3, h4⟩
            · rw [show (visitS (ydP (want.map td) h) (ctP (want.map td) h) T2 y).go = true from h4.trans hgv, if_pos (by rw [ht]; rfl), if_pos (by rw [ht]; rfl)]
              exact hd _ _ _ _ _ (.inl ⟨h1, h2, h3, h4⟩) hw
            · rw [h2, if_neg (by simp), if_pos (by rw [ht]; rfl)]
              exact RelP.later (.inr ⟨h1, h2, h3, h4⟩) h2 (hpre _ _ _ _) (fun hu => by rw [hgv] at hu; cases hu)
          | false =>
            rw [if_neg (by simp : ¬ ((false && y.2.2.1.2.1) = true))]
            rcases hr2 with ⟨h1, h2, h3, h4⟩ | ⟨h1, h2, h3, h4⟩
            · rw [show (visitS (ydP (want.map td) h) (ctP (want.map td) h) T2 y).go = false from h4.trans hgv, if_neg (by simp)]
              exact .inl ⟨h1, h2, h3, h4⟩
            · rw [h2, if_neg (by simp)]
              exact .inr ⟨h1, h2, h3, h4⟩
        · have htf : y.2.2.1.2.1 = false := by simpa using ht
          rw [htf, if_neg (by simp), if_neg (by simp)]
          exact hr2
theorem all_rel (root : Nat) {t : St SP} {u : St (List Slt)} (hr : RelP h t u) (hw : (allS (lkL f) ydL ctL root u).s <+: want) : RelP h (allS (lkP f g) (ydP (want.map td) h) (ctP (want.map td) h) root t) (allS (lkL f) ydL ctL root u) := by
  have stop : ∀ {σ : Type} (lk : σ → Nat → Nat → Nat → (Ent × Int) × σ) (yd : σ → Slt → σ) (ct : σ → Slt → Bool) (d : Nat → Nat → Nat → St σ → St σ) (a b c : Nat) (t : St σ), t.go = false → tabN lk yd ct d a b c 512 t = t := fun lk yd ct d a b c t hg => by
    have := tabN_end (lk := lk) (yd := yd) (ct := ct) (deep := d) (fr := a) (virt := b) (lev := c) (i := 0) (t := t) hg (by omega)
    exact this
  refine tab_rel (fun a b c t => tab_pre (fun a b c t => tab_pre (fun _ _ _ _ => List.prefix_refl _) a b c t 512) a b c t 512) (fun a b c t hg => stop _ _ _ _ a b c t hg) (fun a b c t u hr hw => ?_) (fun a b c t hg => stop _ _ _ _ a b c t hg) root 0 0 hr 512 hw
  refine tab_rel (fun a b c t => tab_pre (fun _ _ _ _ => List.prefix_refl _) a b c t 512) (fun a b c t hg => stop _ _ _ _ a b c t hg) (fun a b c t u hr hw => ?_) (fun a b c t hg => stop _ _ _ _ a b c t hg) a b c hr 512 hw
  exact tab_rel (fun _ _ _ _ => List.prefix_refl _) (fun _ _ _ _ _ => rfl) (fun _ _ _ _ _ hr _ => hr) (fun _ _ _ _ _ => rfl) a b c hr 512 hw
def FewS (C : Nat) (t : St SP) : Prop := (t.go = true → 1 ≤ t.left) ∧ t.s.1 + t.left ≤ C
theorem ydP_fst (w : List T7) (s : SP) (x : Slt) : (ydP w h s x).1 = s.1 := by
  unfold ydP
  split <;> rfl
theorem fews_visit {w : List T7} {C : Nat} {t : St SP} (hl : 1 ≤ t.left) (hc : t.s.1 + t.left ≤ C + 1) (y : Slt) : FewS C (visitS (ydP w h) (ctP w h) t y) := by
  unfold visitS
  split
  · exact ⟨fun e => by have e' := of_decide_eq_true e; show 1 ≤ t.left - 1; omega, by show t.s.1 + (t.left - 1) ≤ C; omega⟩
  · refine ⟨fun e => ?_, by show (ydP w h t.s y).1 + (t.left - 1) ≤ C; rw [ydP_fst]; omega⟩
    have e' : (ctP w h t.s y && decide (1 < t.left)) = true := e
    rw [Bool.and_eq_true] at e'
    have := of_decide_eq_true e'.2
    show 1 ≤ t.left - 1
    omega
theorem fews_tab {w : List T7} {C : Nat} (hg : ∀ a l, g a = false → (f a l).2 ≠ 41) {dP : Nat → Nat → Nat → St SP → St SP} (hd : ∀ a b c t, FewS C t → FewS C (dP a b c t)) (fr virt lev : Nat) {t : St SP} (ht : FewS C t) : ∀ i, FewS C (tabN (lkP f g) (ydP w h) (ctP w h) dP fr virt lev i t)
  | 0 => ht
  | i + 1 => by
    have hi := fews_tab (w := w) hg hd fr virt lev ht i
    rw [tabN]
    generalize tabN (lkP f g) (ydP w h) (ctP w h) dP fr virt lev i t = U at hi ⊢
    split
    · rename_i hgo
      have h1 := hi.1 hgo
      have h2 := hi.2
      by_cases h41 : (f (fr + 8 * i) lev).2 = 41
      · rw [step_absent (lk := lkP f g) h41]
        refine ⟨fun _ => h1, ?_⟩
        have hb : g (fr + 8 * i) = true := by
          cases e : g (fr + 8 * i) with
          | true => rfl
          | false => exact absurd h41 (hg _ _ e)
        show U.s.1 + (if g (fr + 8 * i) then 0 else 1) + U.left ≤ C
        rw [hb]
        exact h2
      · rw [step_aft (lk := lkP f g) h41]
        have hv : ∀ y, FewS C (visitS (ydP w h) (ctP w h) { U with s := (lkP f g U.s fr i lev).2 } y) := fun y => fews_visit (C := C) (t := { U with s := (lkP f g U.s fr i lev).2 }) h1 (by
          show U.s.1 + (if g (fr + 8 * i) then 0 else 1) + U.left ≤ C + 1
          split <;> omega) y
        unfold aft
        split
        · exact hd _ _ _ _ (hv _)
        · exact hv _
    · exact hi
theorem fews_all {w : List T7} {C : Nat} (hg : ∀ a l, g a = false → (f a l).2 ≠ 41) (root : Nat) {t : St SP} (ht : FewS C t) : FewS C (allS (lkP f g) (ydP w h) (ctP w h) root t) :=
  fews_tab hg (fun a b c _ ht => fews_tab hg (fun a b c _ ht => fews_tab hg (fun _ _ _ _ ht => ht) a b c ht 512) a b c ht 512) root 0 0 ht 512
/-- what a round of the law comes to: never something else; all, or more than h; no more strays than may be told -/
theorem round_end (hg : ∀ a l, g a = false → (f a l).2 ≠ 41) (root most : Nat) (h1 : 1 ≤ most) (h : Nat) (q : Nat) (hw : want = (allS (lkL f) ydL ctL root { s := [], left := most, go := true }).s) :
    (((allS (lkP f g) (ydP (want.map td) h) (ctP (want.map td) h) root { s := (q, 0, 0), left := most, go := true }).s.2.2 = 0 ∧ (allS (lkP f g) (ydP (want.map td) h) (ctP (want.map td) h) root { s := (q, 0, 0), left := most, go := true }).s.2.1 = want.length) ∨ ((allS (lkP f g) (ydP (want.map td) h) (ctP (want.map td) h) root { s := (q, 0, 0), left := most, go := true }).s.2.2 = 1 ∧ h < (allS (lkP f g) (ydP (want.map td) h) (ctP (want.map td) h) root { s := (q, 0, 0), left := most, go := true }).s.2.1 ∧ (allS (lkP f g) (ydP (want.map td) h) (ctP (want.map td) h) root { s := (q, 0, 0), left := most, go := true }).s.2.1 ≤ want.length)) ∧ (allS (lkP f g) (ydP (want.map td) h) (ctP (want.map td) h) root { s := (q, 0, 0), left := most, go := true }).s.1 ≤ q + most := by
  have hr := all_rel (f := f) (g := g) (want := want) (h := h) root (t := { s := (q, 0, 0), left := most, go := true }) (u := { s := [], left := most, go := true }) (.inl ⟨rfl, rfl, rfl, rfl⟩) (by rw [← hw]; exact List.prefix_refl _)
  have hf := fews_all (f := f) (g := g) (w := want.map td) (h := h) (C := q + most) hg root (t := { s := (q, 0, 0), left := most, go := true }) ⟨fun _ => h1, Nat.le_refl _⟩
  rw [hw] at hr
  rw [← hw] at hr
  generalize allS (lkP f g) (ydP (want.map td) h) (ctP (want.map td) h) root { s := (q, 0, 0), left := most, go := true } = T at hr hf ⊢
  refine ⟨?_, Nat.le_trans (Nat.le_add_right _ _) hf.2⟩
  rcases hr with ⟨e1, e2, _, _⟩ | ⟨e1, _, e3, e4⟩
  · exact .inl ⟨e1, by rw [e2, ← hw]⟩
  · exact .inr ⟨e1, e3, by rw [← hw] at e4; exact e4⟩
end
end Go.Proofs.YtdkhhofgfbnmkaaGreat
/- The document's own Leaves, and what it tells. Own work. -/
namespace Go.Proofs.YtdkhhofgfbnmkaaGreat
open Go.RowKit Go.Maps Go.Proofs.YtdkhhofgfbnmkaaGreat.Sp Wk Lv
/-- what the document's Leaves answers -/
def RLvT (w : World) (base v : Nat) (vr vd vp : Value) (ps : List (Int × Nat)) (M : Nat → Nat) (LL : List Sp) (L S X root most : Nat) (e : Ending) (w' : World) : Prop :=
  ∃ vt b, e = .returned (.tuple #[vt, .bool b]) ∧ (root % 4096 = 0 → b = (allS (lkL (fL LL M)) ydL ctL root { s := [], left := most, go := true }).go) ∧ (root % 4096 ≠ 0 → b = true ∧ ∃ g, vt = .slice (some ⟨g, 0, none⟩) 1 1 ∧ w.heap.size ≤ g ∧ w'.heap[g]? = some (.cells #[.int .u64 0, .int .u64 0, .int .i64 134217728, .bool false, .bool false, .bool false, .int .i64 42] 125 (0, 0))) ∧ (root % 4096 = 0 → OwnTd w' w.heap.size vt (allS (lkL (fL LL M)) ydL ctL root { s := [], left := most, go := true }).s) ∧ RM w' base v vr vd vp ps M L S X ∧ Keeps (fun j => j = v) w w'
set_option maxRecDepth 100000 in
set_option maxHeartbeats 2000000 in
theorem rleaves_td {w0 w : World} {base v : Nat} {vr vd vp : Value} {ps : List (Int × Nat)} {M : Nat → Nat} {L S X : Nat} {rs ds : List Sp} {root most : Nat} (h : RM w base v vr vd vp ps M L S X) (hb0 : Below w0.heap.size w0 w) (hv0 : w0.heap.size ≤ v) (hvs : v < w.heap.size) (hr : U64.SV w0 vr rs) (hd : U64.SV w0 vd ds) (hs : Sane (rs ++ ds)) (hll : rs.length + ds.length ≤ 64) (hX : X ≤ 4611686018427387904) (h1 : 1 ≤ most) (hQ : most ≤ 1099511627776) (hrt : root ≤ 18446744073709551615) :
    Calls Tryz.prog 52 #[.pointer (some ⟨v, 0, none⟩), .int .u64 (root : Int), .int .i64 (most : Int)] w (RLvT w base v vr vd vp ps M (rs ++ ds) L S X root most) := by
  have hm1 : ¬ (most : Int) < 1 := by omega
  by_cases hroot : root % 4096 = 0
  · have hi : (root : Int) % 4096 = 0 := by omega
    have hit : (root : Int).tmod 4096 = 0 := by rw [Int.tmod_eq_emod_of_nonneg (by omega)]; exact hi
    have E := un_env (Ws := w) (gw := w.heap.size) (base := base) (vp := vp) (ps := ps) (M := M) (L := L) (S := S) (Q := most) hv0 hvs hb0.size (Nat.le_refl _) hr hd hs hll hX hQ
    have hU : Gi most { s := [], left := most, go := true } ∧ UI w0 w base w.heap.size v vr vd vp ps M L S X { s := [], left := most, go := true } (w.alloc (Obj.cells #[.slice none 0 0, .int .i64 (most : Int)] 149)) := by
      have hb : Below w.heap.size w (w.alloc (Obj.cells #[.slice none 0 0, .int .i64 (most : Int)] 149)) := (Below.refl _ _).alloc (Nat.le_refl _) _
      refine ⟨⟨(decide_eq_true (by omega : 0 < most)).symm, by show 0 + most ≤ most; omega⟩, hb0.trans (hb.mono hb0.size), Keeps.of_below hb, h.below hb, .slice none 0 0, heap_alloc_new w _, World.ownsRow_nil _ _ _ _⟩
    have HC := Lib.hid (under_all E (root := root) (by omega) hU)
    have HR := Lib.hid h
    clear E hU h hr hd hs hll hb0
    go_enter Tryz.func52, Tryz.ntmps52
    go_wp2_with fail
    refine HC.out.mono ?_
    rintro e w1 ⟨rfl, hg, hu⟩
    clear HC
    obtain ⟨T, hT⟩ : ∃ T, T = allS (lkL (fL (rs ++ ds) M)) ydL ctL root { s := [], left := most, go := true } := ⟨_, rfl⟩
    rw [← hT] at hg hu
    obtain ⟨_, hk, hm, vt, hw, ho⟩ := hu
    have HOt := Lib.hid ho
    obtain ⟨c0, c1⟩ := hw.cells
    have hgo := hg.1
    have hlen := hg.2
    have HT := Lib.hid hT
    have HK := Lib.hid hk
    have HM := Lib.hid hm
    clear hg hT hk hm ho
    have hbb : decide ((T.left : Int) > 0) = T.go := by
      rw [hgo, decide_eq_decide]
      omega
    go_wp2_with fail
    go_region
    all_goals
      go_wp2_with fail
      go_ret2
      exact ⟨vt, decide (0 < T.left), rfl, fun _ => by rw [← hgo, ← HT.out], fun h => absurd hroot h, fun _ => by rw [← HT.out]; exact HOt.out, HM.out, HK.out.drew⟩
  · have hi : (root : Int) % 4096 > 0 := by omega
    have hit : (root : Int).tmod 4096 > 0 := by rw [Int.tmod_eq_emod_of_nonneg (by omega)]; exact hi
    have HR := Lib.hid h
    clear h hr hd hs hll hb0
    go_enter Tryz.func52, Tryz.ntmps52
    go_wp2_with fail
    go_ret2
    exact ⟨_, true, rfl, fun h => absurd h hroot, fun _ => ⟨rfl, _, rfl, Nat.le_refl _, heap_alloc_new w _⟩, fun h => absurd h hroot, HR.out.below ((Below.refl _ w).alloc (Nat.le_refl _) _), Keeps.of_below ((Below.refl _ w).alloc (Nat.le_refl _) _)⟩
end Go.Proofs.YtdkhhofgfbnmkaaGreat
