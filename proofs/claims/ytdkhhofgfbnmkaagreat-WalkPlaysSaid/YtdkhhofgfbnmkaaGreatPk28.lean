import Derived.Test.YtdkhhofgfbnmkaaGreatPk27
import Derived.Test.YtdkhhofgfbnmkaaGreatPk15
import Derived.Test.YtdkhhofgfbnmkaaGreatPk04
import Derived.Laws.StructEq
import Derived.Laws.CopyOwn
import Derived.Lib.Hide
import Derived.Deep.AppendSrc
/- Load, Fetch, Store over a machine whose Loads and Stores are told exactly. Own work. -/
namespace Go.Proofs.YtdkhhofgfbnmkaaGreat
open Go.RowKit Go.Maps Go.Proofs.YtdkhhofgfbnmkaaGreat.Sp Wk
set_option maxRecDepth 100000 in
set_option maxHeartbeats 2000000 in
theorem wload_y {w : World} {m B : Nat} {V : Value × Value × Value} {T : Nat → Option Nat} {M : Nat → Nat} {rs ds : List Sp} {L S n t v k : Nat} (h : My w m B V T M rs ds L S n) (hL : L ≤ 4611686018427370000) (ht : t ≤ 18446744073709551615) (hn : n ≤ 4611686018427370000) (hk : Wide k) :
    Calls Tryz.prog 14 #[MemV m, .int .u64 (t : Int), .int .u64 (v : Int), .int .i64 (k : Int)] w fun e w' => e = .returned (.tuple #[.int .u64 ((takeV (rs ++ ds) M t v 1 k).1 : Int), FaultV (takeV (rs ++ ds) M t v 1 k).2.1 ((takeV (rs ++ ds) M t v 1 k).2.2 : Int)]) ∧ Hid (My w' m B V T M rs ds (L + tkC (rs ++ ds) M t v 1 k) S (n + 32)) ∧ Hid (Keeps (fun j => j = m) w w') := by
  have HM : Hid (My w m B V T M rs ds L S n) := h
  have hml := h.lt
  have HT := Lib.hid (take_y (acc := 1) (v := v) (h.below ((Below.refl w.heap.size _).alloc (Nat.le_refl _) (Obj.cells #[.int .i64 0, .int .u64 0] 57))) (by omega) ht hn hk)
  generalize takeV (rs ++ ds) M t v 1 k = r at *
  obtain ⟨z, why, x⟩ := r
  simp only at HT ⊢
  unfold MemV at HT ⊢
  clear h
  go_enter Tryz.func14, Tryz.ntmps14
  go_wp2_with fail
  refine HT.out.mono ?_
  rintro e w1 ⟨rfl, HM1, HK1⟩
  have HX1 : Hid (BoxF w1 w.heap.size 0 0) := (BoxF.new w 0 0).keeps HK1.out (by omega)
  obtain ⟨x0, x1, f0, f1⟩ := HX1.out.cells
  unfold FaultV
  clear HT
  go_wp2_with fail
  obtain ⟨d0, d1, _⟩ := (HX1.out.set why x).cells
  refine bodyPost_ret (v := .tuple #[.int .u64 (z : Int), .agg #[.int .i64 why, .int .u64 (x : Int)]]) (by simp [results, Tryz.results14, go_sem, d0, d1]) rfl ?_
  have hk2 := Keeps.two w1 w.heap.size (.int .i64 why) (.int .u64 (x : Int))
  have hk1 : Keeps (fun j => j = m) w w1 := (Keeps.alloc (S := fun j => j = m) w _).trans HK1.out (fun _ _ e => e)
  exact ⟨rfl, HM1.out.keeps hk2 (fun j hj e => by have := HM.out.mine_lt hj; omega), hk1.trans hk2 (fun i hi e => absurd e (by omega))⟩
set_option maxRecDepth 100000 in
set_option maxHeartbeats 2000000 in
theorem wfetch_y {w : World} {m B : Nat} {V : Value × Value × Value} {T : Nat → Option Nat} {M : Nat → Nat} {rs ds : List Sp} {L S n t v k : Nat} (h : My w m B V T M rs ds L S n) (hL : L ≤ 4611686018427370000) (ht : t ≤ 18446744073709551615) (hn : n ≤ 4611686018427370000) (hk : Wide k) :
    Calls Tryz.prog 15 #[MemV m, .int .u64 (t : Int), .int .u64 (v : Int), .int .i64 (k : Int)] w fun e w' => e = .returned (.tuple #[.int .u64 ((takeV (rs ++ ds) M t v 3 k).1 : Int), FaultV (takeV (rs ++ ds) M t v 3 k).2.1 ((takeV (rs ++ ds) M t v 3 k).2.2 : Int)]) ∧ Hid (My w' m B V T M rs ds (L + tkC (rs ++ ds) M t v 3 k) S (n + 32)) ∧ Hid (Keeps (fun j => j = m) w w') := by
  have HM : Hid (My w m B V T M rs ds L S n) := h
  have hml := h.lt
  have HT := Lib.hid (take_y (acc := 3) (v := v) (h.below ((Below.refl w.heap.size _).alloc (Nat.le_refl _) (Obj.cells #[.int .i64 0, .int .u64 0] 57))) (by omega) ht hn hk)
  generalize takeV (rs ++ ds) M t v 3 k = r at *
  obtain ⟨z, why, x⟩ := r
  simp only at HT ⊢
  unfold MemV at HT ⊢
  clear h
  go_enter Tryz.func15, Tryz.ntmps15
  go_wp2_with fail
  refine HT.out.mono ?_
  rintro e w1 ⟨rfl, HM1, HK1⟩
  have HX1 : Hid (BoxF w1 w.heap.size 0 0) := (BoxF.new w 0 0).keeps HK1.out (by omega)
  obtain ⟨x0, x1, f0, f1⟩ := HX1.out.cells
  unfold FaultV
  clear HT
  go_wp2_with fail
  obtain ⟨d0, d1, _⟩ := (HX1.out.set why x).cells
  refine bodyPost_ret (v := .tuple #[.int .u64 (z : Int), .agg #[.int .i64 why, .int .u64 (x : Int)]]) (by simp [results, Tryz.results15, go_sem, d0, d1]) rfl ?_
  have hk2 := Keeps.two w1 w.heap.size (.int .i64 why) (.int .u64 (x : Int))
  have hk1 : Keeps (fun j => j = m) w w1 := (Keeps.alloc (S := fun j => j = m) w _).trans HK1.out (fun _ _ e => e)
  exact ⟨rfl, HM1.out.keeps hk2 (fun j hj e => by have := HM.out.mine_lt hj; omega), hk1.trans hk2 (fun i hi e => absurd e (by omega))⟩
/-- what Store answers and leaves -/
def WStY (w : World) (m B : Nat) (V : Value × Value × Value) (T : Nat → Option Nat) (M : Nat → Nat) (rs ds : List Sp) (L S n t v k val : Nat) (e : Ending) (w' : World) : Prop :=
  (∃ why x, reachF (rs ++ ds) M t v 2 k = some (why, x) ∧ e = .returned (FaultV why (x : Int)) ∧ My w' m B V T M rs ds L S (n + 32) ∧ Keeps (fun j => j = m) w w') ∨
  (reachF (rs ++ ds) M t v 2 k = none ∧ (∀ j, j < k → (ad (rs ++ ds) M t v 2 j).2 = 0 ∧ On (rs ++ ds) ((ad (rs ++ ds) M t v 2 j).1 : Int)) ∧ e = .returned (FaultV 0 0) ∧ ∃ T', My w' m B V T' (stM (rs ++ ds) M t v val k) rs ds L (S + k) (n + 32) ∧ Grows w.heap.size T T' ∧ Keeps (fun j => j = m ∨ Foot B T j) w w')
/-- where Store's loop stands -/
def StY (w w2 : World) (m B : Nat) (V : Value × Value × Value) (T : Nat → Option Nat) (M : Nat → Nat) (rs ds : List Sp) (L S n t v k val g gp cp base q : Nat) (wr : World) : Prop :=
  RowA wr g (upA (rs ++ ds) M t v 2 k k) ∧ Own wr base (.slice (some ⟨gp, 0, none⟩) 8 cp) (Pl.le 8 val) ∧ BoxF wr w.heap.size 0 0 ∧ Keeps (fun j => j = m ∨ Foot B T j) w wr ∧ w2.heap.size ≤ wr.heap.size ∧ ∃ T', My wr m B V T' (stM (rs ++ ds) M t v val q) rs ds L (S + q) (n + 16 + q) ∧ Grows w2.heap.size T T'
theorem StY.below {w w2 : World} {m B : Nat} {V : Value × Value × Value} {T : Nat → Option Nat} {M : Nat → Nat} {rs ds : List Sp} {L S n t v k val g gp cp base q : Nat} {wr wr' : World} (h : StY w w2 m B V T M rs ds L S n t v k val g gp cp base q wr) (hb : Below wr.heap.size wr wr') : StY w w2 m B V T M rs ds L S n t v k val g gp cp base q wr' := by
  obtain ⟨h1, h2, h3, h4, h5, T', h6, h7⟩ := h
  exact ⟨h1.below hb, h2.below hb, h3.below hb, h4.trans (Keeps.of_below (S := fun _ => False) hb) (fun _ _ h => h.elim), Nat.le_trans h5 hb.size, T', h6.below hb, h7⟩
theorem sta_stY {w w2 : World} {m B : Nat} {V : Value × Value × Value} {T : Nat → Option Nat} {M : Nat → Nat} {rs ds : List Sp} {L S n t v k val g gp cp base q : Nat} {wr : World} (h : StY w w2 m B V T M rs ds L S n t v k val g gp cp base q wr) (hm : My w m B V T M rs ds L S n) (hS : S ≤ 4611686018427370000) (hg : w.heap.size < g ∧ g < w2.heap.size) (hgp : w.heap.size < gp ∧ gp < w2.heap.size) (hq : q < 8) (hn : n ≤ 4611686018427370000) (hon : On (rs ++ ds) ((ad (rs ++ ds) M t v 2 q).1 : Int)) (W : World) (hW : Below wr.heap.size wr W) :
    Calls Tryz.prog 17 #[.pointer (some ⟨m, 0, none⟩), .int .u64 ((ad (rs ++ ds) M t v 2 q).1 : Int), .int .i64 1, .int .u64 (((Pl.le 8 val).getD q 0 : Nat) : Int)] W fun e w' => e = .returned (.agg #[.int .i64 0, .int .u64 0]) ∧ w'.cell? ⟨gp, q, none⟩ = some (.int .u8 (((Pl.le 8 val).getD q 0 : Nat) : Int)) ∧ Hid (StY w w2 m B V T M rs ds L S n t v k val g gp cp base (q + 1) w') ∧ Hid (∀ b x y, wr.heap.size ≤ b → BoxF W b x y → BoxF w' b x y) ∧ Hid (∀ b u y, wr.heap.size ≤ b → b < W.heap.size → StY w w2 m B V T M rs ds L S n t v k val g gp cp base (q + 1) ((w'.setCell ⟨b, 0, none⟩ u).setCell ⟨b, 1, none⟩ y)) := by
  have hml := hm.lt
  have hft : ∀ j, Foot B T j → j < w.heap.size := fun j hj => hm.mine_lt (.inr (.inl hj))
  have h' := h.below hW
  obtain ⟨g1, g2, g3, g4, g5, T', hmxr, g7⟩ := h
  have hlow : ∀ j, Foot B T' j → j < wr.heap.size := fun j hj => hmxr.mine_lt (.inr (.inl hj))
  obtain ⟨h1, h2, h3, h4, h5, _⟩ := h'
  obtain ⟨X, l3, hmac⟩ := hmxr.below hW
  have h7 := g7
  have hmr := hmxr.lt
  have hz : (Pl.le 8 val).getD q 0 < 256 := by
    rw [List.getD_eq_getElem?_getD, List.getElem?_eq_getElem (by rw [Pl.le_length]; exact hq)]
    exact Pl.le_small 8 val _ (List.getElem_mem _)
  have ha := adrF_le (rs ++ ds) M t (vv v q) 2
  refine (store_any (n := 1) hmac ha (Or.inl rfl) (show (Pl.le 8 val).getD q 0 ≤ 18446744073709551615 by omega) (by omega) (by omega)).mono ?_
  rintro e w' ⟨x, b, ho, rfl, hk, _, hok⟩
  have hb : b = false := by
    cases b with
    | false => rfl
    | true =>
      obtain ⟨i, hi, _, _, hnn, _⟩ := ho.1 rfl
      obtain rfl : i = 0 := by omega
      have hon' : On (rs ++ ds) ((adrF (rs ++ ds) M t (vv v q) 2).1 : Int) := hon
      exact absurd (by simpa using hon') hnn
  subst hb
  obtain ⟨hx, _⟩ := ho.2 rfl
  subst hx
  obtain ⟨T'', hm2, hg2⟩ := hok rfl
  have hle1 : (Pl.le 8 ((Pl.le 8 val).getD q 0)).take 1 = [(Pl.le 8 val).getD q 0] := by
    generalize (Pl.le 8 val).getD q 0 = z at hz
    show [z % 256] = [z]
    rw [Nat.mod_eq_of_lt hz]
  rw [hle1] at hm2
  have hno : ∀ j, w.heap.size ≤ j → j < w2.heap.size → ¬ (j = m ∨ Foot B T' j) := fun j hj1 hj2 hj => by
    rcases hj with rfl | hj
    · omega
    · have := hft j (h7.foot hj hj2); omega
  have hown' := h2.keeps hk (fun k e => by cases e; exact hno gp (by omega) hgp.2)
  have hrow' := h1.keeps hk (hno g (by omega) hg.2)
  have hbx' := h3.keeps hk (hno _ (Nat.le_refl _) (by omega))
  have hks' := h4.trans hk (fun i hi e => e.imp id (fun hj => h7.foot hj (by omega)))
  have hmx' : My w' m B V T'' (stM (rs ++ ds) M t v val (q + 1)) rs ds L (S + (q + 1)) (n + 16 + (q + 1)) := ⟨X, by omega, hm2⟩
  refine ⟨rfl, hown'.cell q (by rw [Pl.le_length]; exact hq), ⟨hrow', hown', hbx', hks', Nat.le_trans h5 hk.size, T'', hmx', h7.trans hg2 h5⟩, fun b x y hb hbox => hbox.keeps hk (fun e => e.elim (fun e => by omega) (fun hj => by have := hlow b hj; omega)), fun b u y hb1 hb2 => ?_⟩
  have hk5 := Keeps.two w' b u y
  refine ⟨hrow'.keeps hk5 (show ¬ g = b by omega), hown'.keeps hk5 (fun k e => by cases e; show ¬ gp = b; omega), hbx'.keeps hk5 (show ¬ w.heap.size = b by omega), hks'.trans hk5 (fun i hi e => absurd (show i = b from e) (by have := h4.size; have := hW.size; omega)), Nat.le_trans (Nat.le_trans h5 hk.size) hk5.size, T'', hmx'.keeps hk5 (fun j hj e => ?_), h7.trans hg2 h5⟩
  have e : j = b := e
  rcases hj with rfl | hj | ⟨u', hu, hj⟩
  · omega
  · have := hlow j (hg2.foot hj (by omega)); omega
  · have := hmxr.mine_lt (.inr (.inr ⟨u', hu, hj⟩)); omega
set_option maxRecDepth 100000 in
set_option maxHeartbeats 8000000 in
theorem wstore_y {w : World} {m B : Nat} {V : Value × Value × Value} {T : Nat → Option Nat} {M : Nat → Nat} {rs ds : List Sp} {L S n t v k val : Nat} (h : My w m B V T M rs ds L S n) (hS : S ≤ 4611686018427370000) (ht : t ≤ 18446744073709551615) (hval : val ≤ 18446744073709551615) (hn : n ≤ 4611686018427370000) (hk : Wide k) :
    Calls Tryz.prog 24 #[MemV m, .int .u64 (t : Int), .int .u64 (v : Int), .int .i64 (k : Int), .int .u64 (val : Int)] w (WStY w m B V T M rs ds L S n t v k val) := by
  have HM : Hid (My w m B V T M rs ds L S n) := h
  have hml := h.lt
  have k8 : k ≤ 8 := by rcases hk with h | h | h | h <;> omega
  have HRe : Hid (Calls Tryz.prog 49 #[MemV m, .int .u64 (t : Int), .int .u64 (v : Int), .int .i64 (k : Int), .int .i64 2] (w.alloc (Obj.cells #[.int .i64 0, .int .u64 0] 57)) fun e w' => ReachP (w.alloc (Obj.cells #[.int .i64 0, .int .u64 0] 57)) (rs ++ ds) M t v 2 k e w' ∧ Hid (My w' m B V T M rs ds L S (n + 16)) ∧ Hid (Keeps (fun j => j = m) (w.alloc (Obj.cells #[.int .i64 0, .int .u64 0] 57)) w')) := reached_y (h.below ((Below.refl _ _).alloc (Nat.le_refl _) _)) ht (by omega) hk
  have hme : ∀ (w : World) (p : Option Addr), (method 319 28 (.pointer p) "Store").run Tryz.prog w = .ok (17, .pointer p) w := fun _ _ => by kernel_rfl
  have hna : ∀ (W : World) (a : Addr), (nilAhead 319 28 (.pointer (some a)) "Store").run Tryz.prog W = .ok (some false) W := fun _ _ => by kernel_rfl
  have HX0 : Hid (BoxF (w.alloc (Obj.cells #[.int .i64 0, .int .u64 0] 57)) w.heap.size 0 0) := BoxF.new w 0 0
  unfold MemV at HRe ⊢
  clear hk h
  go_enter Tryz.func24, Tryz.ntmps24
  go_wp2_with fail
  refine HRe.out.mono ?_
  rintro e w1 ⟨hP, HM1, HK1⟩
  have HX1 : Hid (BoxF w1 w.heap.size 0 0) := HX0.out.keeps HK1.out (by omega)
  have HKw1 : Hid (Keeps (fun j => j = m) w w1) := (Keeps.alloc (S := fun j => j = m) w _).trans HK1.out (fun _ _ e => e)
  have hlt1 := HX1.out.lt
  clear HRe HX0 HK1
  rcases hP with ⟨why, x, hre, rfl⟩ | ⟨hre, hall, g, rfl, hg, hrow⟩
  · have HRe : Hid (reachF (rs ++ ds) M t v 2 k = some (why, x)) := hre
    have h0 := reach_why hre
    have h0e : (why == 0) = false := by simpa using h0
    obtain ⟨W3, hW3⟩ : ∃ W3, w1.alloc (Obj.cells #[.int .i64 why, .int .u64 (x : Int)] 57) = W3 := ⟨_, rfl⟩
    have HF3 : Hid (BoxF W3 w1.heap.size why x) := hW3 ▸ BoxF.new w1 why x
    have HX3 : Hid (BoxF W3 w.heap.size 0 0) := hW3 ▸ HX1.out.below ((Below.refl _ _).alloc (Nat.le_refl _) _)
    have HB3 : Hid (Below w1.heap.size w1 W3) := hW3 ▸ (Below.refl _ _).alloc (Nat.le_refl _) _
    have hne : w.heap.size ≠ w1.heap.size := by omega
    obtain ⟨x0, x1, f0, f1⟩ := HX3.out.cells
    obtain ⟨y0, y1, _, _⟩ := HF3.out.cells
    unfold FaultV
    clear hre
    go_wp2_with fail
    clear hW3
    obtain ⟨d0, d1, _⟩ := (HX3.out.set why x).cells
    refine bodyPost_ret (v := .agg #[.int .i64 why, .int .u64 (x : Int)]) (by simp [results, Tryz.results24, go_sem, d0, d1]) rfl ?_
    have hk2 := Keeps.two W3 w.heap.size (.int .i64 why) (.int .u64 (x : Int))
    exact .inl ⟨why, x, HRe.out, rfl, ((HM1.out.mono (by omega)).below HB3.out).keeps hk2 (fun j hj e => by have := HM.out.mine_lt hj; omega), (HKw1.out.trans (Keeps.of_below (S := fun _ => False) HB3.out) (fun _ _ h => h.elim)).trans hk2 (fun i hi e => absurd e (by omega))⟩
  · have HRe : Hid (reachF (rs ++ ds) M t v 2 k = none) := hre
    have HAll : Hid (∀ j, j < k → (ad (rs ++ ds) M t v 2 j).2 = 0 ∧ On (rs ++ ds) ((ad (rs ++ ds) M t v 2 j).1 : Int)) := hall
    have HRw : Hid (RowA w1 g (upA (rs ++ ds) M t v 2 k k)) := hrow
    have hgl : w.heap.size < g ∧ g < w1.heap.size := ⟨by simp at hg; omega, hrow.lt⟩
    obtain ⟨hg1, hg2⟩ := hgl
    have HPut := Lib.hid (put_nil (n := val) (w1.alloc (Obj.cells #[.int .i64 0, .int .u64 0] 57)) hval)
    clear hre hall hrow hg
    unfold FaultV
    go_wp2_with fail
    refine HPut.out.mono ?_
    rintro e w2 ⟨vp, rfl, hown, hb2⟩
    obtain ⟨gp, cp, hvp, hgp, hgp2, hcp, hcm⟩ := hown.form (by rw [Pl.le_length]; omega)
    rw [Pl.le_length] at hvp hcp
    subst hvp
    have HOw : Hid (Own w2 (w1.alloc (Obj.cells #[.int .i64 0, .int .u64 0] 57)).heap.size (.slice (some ⟨gp, 0, none⟩) 8 cp) (Pl.le 8 val)) := hown
    have HB2 : Hid (Below w1.heap.size w1 w2) := ((Below.refl _ _).alloc (Nat.le_refl _) _).trans (hb2.mono (by simp))
    have hgp1 : w1.heap.size < gp := by simp at hgp; omega
    have HX2 : Hid (BoxF w2 w.heap.size 0 0) := HX1.out.below HB2.out
    have HRw2 : Hid (RowA w2 g (upA (rs ++ ds) M t v 2 k k)) := HRw.out.below HB2.out
    have HM2 : Hid (My w2 m B V T M rs ds L S (n + 16)) := HM1.out.below HB2.out
    have HKw2 : Hid (Keeps (fun j => j = m) w w2) := HKw1.out.trans (Keeps.of_below (S := fun _ => False) HB2.out) (fun _ _ h => h.elim)
    clear hown hb2 hgp HPut HX1 HRw HM1 HKw1
    have HSt0 : Hid (StY w w2 m B V T M rs ds L S n t v k val g gp cp (w1.alloc (Obj.cells #[.int .i64 0, .int .u64 0] 57)).heap.size 0 w2) := ⟨HRw2.out, HOw.out, HX2.out, HKw2.out.mono (fun _ _ e => .inl e), Nat.le_refl _, T, HM2.out, Grows.refl _ _⟩
    have hgg : g < w2.heap.size := HRw2.out.lt
    generalize hbs : (w1.alloc (Obj.cells #[.int .i64 0, .int .u64 0] 57)).heap.size = bs at *
    clear hbs HRw2 HOw HX2 HKw2 HM2
    go_wp2_with fail
    go_loopw [33] (fun iv wr => ∃ q : Nat, q ≤ k ∧ iv = .int .i64 (q : Int) ∧ Hid (StY w w2 m B V T M rs ds L S n t v k val g gp cp bs q wr)) (fun iv _ => k - (intOf iv).toNat)
    case atStart => exact ⟨0, Nat.zero_le _, rfl, HSt0⟩
    case round =>
      clear HSt0
      obtain ⟨q, hq, rfl, HS⟩ := hrel
      by_cases hlt : q < k
      · have y0 := HS.out.1.cell q (by rw [upA_len]; exact hlt)
        rw [upA_get _ _ _ _ _ _ _ hlt] at y0
        have z0 := HS.out.2.1.cell q (by rw [Pl.le_length]; omega)
        have HCl := Lib.hid (sta_stY HS.out HM.out hS ⟨hg1, hgg⟩ ⟨by omega, hgp2⟩ (by omega) hn (HAll.out q hlt).2)
        have hz : (Pl.le 8 val).getD q 0 < 256 := by
          rw [List.getD_eq_getElem?_getD, List.getElem?_eq_getElem (by rw [Pl.le_length]; omega)]
          exact Pl.le_small 8 val _ (List.getElem_mem _)
        generalize (ad (rs ++ ds) M t v 2 q).1 = r1 at *
        generalize (Pl.le 8 val).getD q 0 = z at *
        have qi : (q : Int) < (k : Int) := by omega
        have q8 : (q : Int) < 8 := by omega
        have q8n : q < 8 := by omega
        have HBd : Hid (Below wr.heap.size wr wr.drew) := (Below.refl _ _).drew
        have hzw : IntKind.u64.wrap (z : Int) = (z : Int) := by rw [IntKind.wrap_u64]; omega
        go_wp2_with fail
        have hnew : gp ≠ wr.heap.size := by have := HS.out.2.2.2.2.1; omega
        go_region_held3 (fun w' => w'.cell? ⟨gp, q, none⟩ = some (.int .u8 ((z : Nat) : Int))) (first | exact (U64.set_other hnew).trans ((U64.set_other hnew).trans z3) | go_keep) (first | (go_at_call 17; first | (refine (HCl.out _ HBd.out).mono ?_; rintro e w3 ⟨rfl, z3, HS3, HZ3, HY3⟩) | (refine (HCl.out _ (HBd.out.alloc HBd.out.size _)).mono ?_; rintro e w3 ⟨rfl, z3, HS3, HZ3, HY3⟩; obtain ⟨k0, k1, k2, k3⟩ := (HZ3.out wr.heap.size 0 0 (Nat.le_refl _) (BoxF.new wr.drew 0 0)).cells)))
        · go_wp2_with fail
          go_roundw
          case rel => exact ⟨q + 1, by omega, by go_num, HS3.out.below ((Below.refl _ _).alloc (Nat.le_refl _) _)⟩
          case measure => simp [intOf]; omega
        all_goals
          go_wp2_with fail
          go_roundw
          case rel => exact ⟨q + 1, by omega, by go_num, HY3.out wr.heap.size _ _ (Nat.le_refl _) (by simp)⟩
          case measure => simp [intOf]; omega
      · obtain rfl : q = k := by omega
        obtain ⟨x0, x1, f0, f1⟩ := HS.out.2.2.1.cells
        have HXr : Hid (BoxF wr w.heap.size 0 0) := HS.out.2.2.1
        go_wp2_with fail
        obtain ⟨d0, d1, _⟩ := (HXr.out.set 0 0).cells
        refine bodyPost_ret (v := .agg #[.int .i64 0, .int .u64 0]) (by simp [results, Tryz.results24, go_sem, d0, d1]) rfl ?_
        have hk2 := Keeps.two wr w.heap.size (.int .i64 0) (.int .u64 0)
        obtain ⟨_, _, _, h4, h5, T', h6, h7⟩ := HS.out
        refine .inr ⟨HRe.out, HAll.out, rfl, T', (h6.mono (by omega)).keeps hk2 (fun j hj e => ?_), fun k g e => (h7 k g e).imp id (fun h => by omega), h4.trans hk2 (fun i hi e => absurd e (by omega))⟩
        have e : j = w.heap.size := e
        rcases hj with rfl | hj | ⟨u, hu, hj⟩
        · omega
        · have := HM.out.mine_lt (.inr (.inl (h7.foot hj (by omega)))); omega
        · have := HM.out.mine_lt (.inr (.inr ⟨u, hu, hj⟩)); omega
end Go.Proofs.YtdkhhofgfbnmkaaGreat
/- Rows of ranges that are known whole; Roomy, Intact of ranges. Own work. -/
namespace Go.Proofs.YtdkhhofgfbnmkaaGreat
open Go.RowKit Go.Maps Go.Proofs.YtdkhhofgfbnmkaaGreat.Sp
theorem info_rg : (Tryz.prog.info? 65).map (fun i => (i.zero, i.size, i.bytes)) = some (some (.agg #[.int .u64 0, .int .u64 0]), 2, 16) := by kernel_rfl
/-- a row of ranges, known whole -/
def RowR (w : World) (g : Nat) (L : List Sp) : Prop := w.heap[g]? = some (.cells (U64.encs L).toArray 65 (0, 0))
theorem RowR.lt {w : World} {g : Nat} {L : List Sp} (h : RowR w g L) : g < w.heap.size := (Array.getElem?_eq_some_iff.1 h).1
theorem RowR.cell0 {w : World} {g : Nat} {L : List Sp} (h : RowR w g L) (j : Nat) (hj : j < L.length) : w.cell? ⟨g, j * 2, none⟩ = some (.int .u64 L[j].1) := by
  rw [cell_of_row _ _ _ _ _ _ h, show ((U64.encs L).toArray[j * 2]?) = (U64.encs L)[j * 2]? by simp]
  exact U64.encs_get0 L j hj
theorem RowR.cell1 {w : World} {g : Nat} {L : List Sp} (h : RowR w g L) (j : Nat) (hj : j < L.length) : w.cell? ⟨g, j * 2 + 1, none⟩ = some (.int .u64 L[j].2) := by
  rw [cell_of_row _ _ _ _ _ _ h, show ((U64.encs L).toArray[j * 2 + 1]?) = (U64.encs L)[j * 2 + 1]? by simp]
  exact U64.encs_get1 L j hj
theorem RowR.below {w w' : World} {g : Nat} {L : List Sp} (h : RowR w g L) (hb : Below w.heap.size w w') : RowR w' g L := (hb.block g h.lt).trans h
theorem RowR.keeps {Z : Nat → Prop} {w w' : World} {g : Nat} {L : List Sp} (h : RowR w g L) (hk : Keeps Z w w') (hn : ¬ Z g) : RowR w' g L := (hk.block g h.lt hn).trans h
theorem RowR.sv {w : World} {g n c : Nat} {L : List Sp} (h : RowR w g L) (hn : n ≤ L.length) (hc : n ≤ c) (hm : c ≤ maxLen) : U64.SV w (.slice (some ⟨g, 0, none⟩) n c) (L.take n) := by
  have hl : (L.take n).length = n := by rw [List.length_take]; omega
  refine ⟨some ⟨g, 0, none⟩, c, by rw [hl], by rw [hl]; exact hc, hm, fun e => (by cases e), fun a e => (by cases e; exact ⟨g, 0, rfl, h.lt⟩), fun i hi => ⟨g, 0, rfl, ?_, ?_⟩⟩
  · rw [Nat.zero_add, List.getElem_take]
    exact h.cell0 i (by omega)
  · rw [Nat.zero_add, List.getElem_take]
    exact h.cell1 i (by omega)
section
variable {P : Program}
/-- copy of things of several cells -/
theorem run_copyS (w : World) (dT sT ty elem : TypeId) (s g o dLen dCap : Nat) (a : Addr) (sLen sCap : Nat) (cur : Array Value) (t : TypeId) (cs : List Value)
    (hu : P.underlying dT = some (.slice elem)) (hs : (P.info? elem).map (·.size) = some s)
    (hg : w.heap[g]? = some (.cells cur t (0, 0))) (hn : cs.length = Nat.min sLen dLen * s)
    (hsrc : ∀ j v, cs[j]? = some v → w.cell? (a.add j) = some v) (hfit : o + cs.length ≤ cur.size) (h1 : ∀ v ∈ cs, v.oneCell' = true) :
    (Builtin.copy_ #[dT, sT] ty #[.slice (some ⟨g, o, none⟩) dLen dCap, .slice (some a) sLen sCap]).run P w =
      .ok (goInt (Nat.min sLen dLen)) (w.setRow g (cur.toList.take o ++ cs ++ cur.toList.drop (o + cs.length)).toArray) := by
  have hl := run_loadCells_list (P := P) w a cs hsrc
  have hst := run_storeCells_at P g o t cs 0 cur w hg (by simpa using hfit) h1
  cases hq : P.info? elem with
  | none => simp [hq] at hs
  | some i =>
    have hi : i.size = s := by simpa [hq] using hs
    simp [Builtin.copy_, run_underlying hu, Builtin.lenOf, Builtin.firstCells, sizeOf, typeInfo, hq, hi, ← hn, hl, hst]
theorem run_copyN (w : World) (dT sT ty elem : TypeId) (a : Addr) (dLen dCap c : Nat) (hu : P.underlying dT = some (.slice elem)) (hs : ((P.info? elem).map (·.size)).isSome = true) :
    (Builtin.copy_ #[dT, sT] ty #[.slice (some a) dLen dCap, .slice none 0 c]).run P w = .ok (goInt 0) w := by
  cases hq : P.info? elem with
  | none => simp [hq] at hs
  | some i => simp [Builtin.copy_, run_underlying hu, Builtin.lenOf, Builtin.firstCells, sizeOf, typeInfo, hq, storeCells]
end
/-- the copy of ranges into a row that is known -/
theorem wpList_copyR {w : World} {ops : Array Oper} {rest : List Oper} {o : Oper} {a : Act} {Q : Exit → Act → World → Prop} (hgd : o.guard = none) (d s : Operand)
    (ho : o.op = .call { callee := .builtin .copy, args := #[d, s], argTypes := #[22, 22] }) {g dCap m : Nat} {v : Value} {xs : List Sp} (hd : a.eval d = .slice (some ⟨g, 0, none⟩) (xs.length + m) dCap) (hs : a.eval s = v) (hr : RowR w g (List.replicate (xs.length + m) (0, 0))) (hv : U64.SV w v xs)
    (h : ∀ w', Hid (RowR w' g (xs ++ List.replicate m (0, 0))) → Hid (Keeps (fun k => k = g) w w') → wpList Tryz.prog ops Q rest (a.put o.dst (goInt xs.length)) w') : wpList Tryz.prog ops Q (o :: rest) a w := by
  obtain ⟨i, hi, hz0, hz1, hz2⟩ := info_parts info_rg
  have hsz : (Tryz.prog.info? 65).map (·.size) = some 2 := by rw [hi, Option.map_some, hz1]
  obtain ⟨ao, cap, rfl, h1, h2, h3, h9, h4⟩ := hv
  refine wpList_plain hgd fun K hK => ?_
  by_cases hp : 0 < xs.length
  · obtain ⟨b, of, rfl, _⟩ := h4 0 hp
    have hrun := run_copyS (P := Tryz.prog) w 22 22 o.type 65 2 g 0 (xs.length + m) dCap ⟨b, of, none⟩ xs.length cap (U64.encs (List.replicate (xs.length + m) (0, 0))).toArray 65 (U64.encs xs) Tryz.underlying22 hsz hr (by rw [U64.encs_length, show Nat.min xs.length (xs.length + m) = xs.length from Nat.min_eq_left (by omega)]) (fun j u hj => by
      have hjl : j < xs.length * 2 := by have := (List.getElem?_eq_some_iff.1 hj).1; rw [U64.encs_length] at this; exact this
      obtain ⟨b', o', e, c0, c1⟩ := h4 (j / 2) (by omega)
      cases e
      rw [Addr.add_lit]
      rcases (by omega : j % 2 = 0 ∨ j % 2 = 1) with e | e
      · rw [show j = j / 2 * 2 by omega, U64.encs_get0 xs (j / 2) (by omega)] at hj
        rw [show j = j / 2 * 2 by omega, c0]
        exact hj
      · rw [show j = j / 2 * 2 + 1 by omega, U64.encs_get1 xs (j / 2) (by omega)] at hj
        rw [show j = j / 2 * 2 + 1 by omega, ← Nat.add_assoc, c1]
        exact hj) (by simp [U64.encs_length]; omega) (U64.encs_one xs)
    rw [show Nat.min xs.length (xs.length + m) = xs.length from Nat.min_eq_left (by omega)] at hrun
    unfold Oper.wp
    simp only [execOp, ho, resolve, invoke, builtin, Sem.run_bind, Sem.run_pure, List.map_toArray, List.map_cons, List.map_nil, hd, hs, hrun, Result.andThen_ok]
    refine hK _ _ (h _ ?_ ⟨rfl, rfl, rfl, by simp [World.setRow], fun k _ hk => setRow_other w g k _ hk⟩)
    have e : (U64.encs (List.replicate (xs.length + m) ((0 : Int), (0 : Int)))).toArray.toList.take 0 ++ U64.encs xs ++ (U64.encs (List.replicate (xs.length + m) ((0 : Int), (0 : Int)))).toArray.toList.drop (0 + (U64.encs xs).length) = U64.encs (xs ++ List.replicate m (0, 0)) := by
      rw [← List.replicate_append_replicate, U64.encs_append, U64.encs_append]
      simp only [List.take_zero, List.nil_append, Nat.zero_add]
      rw [List.drop_append_of_le_length (by rw [U64.encs_length, U64.encs_length, List.length_replicate]; exact Nat.le_refl _), List.drop_of_length_le (by rw [U64.encs_length, U64.encs_length, List.length_replicate]; exact Nat.le_refl _), List.nil_append]
    show _ = _
    rw [e]
    exact setRow_heap w g _ _ _ _ hr
  · obtain rfl : xs = [] := List.eq_nil_of_length_eq_zero (by omega)
    have hr' : RowR w g (List.replicate m (0, 0)) := by
      have := hr
      rw [List.length_nil, Nat.zero_add] at this
      exact this
    have hrun : (Builtin.copy_ #[22, 22] o.type #[.slice (some ⟨g, 0, none⟩) (([] : List Sp).length + m) dCap, .slice ao ([] : List Sp).length cap]).run Tryz.prog w = .ok (goInt 0) w := by
      cases ao with
      | none => exact run_copyN w _ _ _ 65 _ _ _ _ Tryz.underlying22 (by rw [hsz]; rfl)
      | some ad =>
        have := run_copyS (P := Tryz.prog) w 22 22 o.type 65 2 g 0 (([] : List Sp).length + m) dCap ad 0 cap (U64.encs (List.replicate m (0, 0))).toArray 65 [] Tryz.underlying22 hsz hr' (by simp) (fun j u hj => by simp at hj) (by simp) (fun _ h => by cases h)
        rw [show Nat.min 0 (([] : List Sp).length + m) = 0 from Nat.zero_min _] at this
        have e : ((U64.encs (List.replicate m ((0 : Int), (0 : Int)))).toArray.toList.take 0 ++ [] ++ (U64.encs (List.replicate m ((0 : Int), (0 : Int)))).toArray.toList.drop (0 + ([] : List Value).length)).toArray = (U64.encs (List.replicate m ((0 : Int), (0 : Int)))).toArray := by simp
        rw [e, setRow_self w g _ _ _ hr'] at this
        exact this
    unfold Oper.wp
    simp only [execOp, ho, resolve, invoke, builtin, Sem.run_bind, Sem.run_pure, List.map_toArray, List.map_cons, List.map_nil, hd, hs, hrun, Result.andThen_ok]
    exact hK _ _ (h w (by rw [List.nil_append]; exact hr') (Keeps.refl _ _))
theorem RowR.set {w : World} {g : Nat} {L : List Sp} (h : RowR w g L) (j : Nat) (hj : j < L.length) (x : Int × Int) : RowR ((w.setCell ⟨g, j * 2, none⟩ (.int .u64 x.1)).setCell ⟨g, j * 2 + 1, none⟩ (.int .u64 x.2)) g (L.set j x) := by
  have h0 : w.heap[g]? = some (.cells (U64.encs L).toArray 65 (0, 0)) := h
  have e : U64.encs (L.set j x) = ((U64.encs L).set (j * 2) (.int .u64 x.1)).set (j * 2 + 1) (.int .u64 x.2) := by
    clear h h0
    induction L generalizing j with
    | nil => simp at hj
    | cons y ys ih =>
      cases j with
      | zero => rfl
      | succ j =>
        have := ih j (by simpa using hj)
        rw [List.set_cons_succ, show U64.encs (y :: ys.set j x) = U64.enc y ++ U64.encs (ys.set j x) from rfl, this, show U64.encs (y :: ys) = U64.enc y ++ U64.encs ys from rfl]
        rw [List.set_append_right _ _ (by simp [U64.enc]; omega), show (j + 1) * 2 - (U64.enc y).length = j * 2 by simp [U64.enc]; omega, List.set_append_right _ _ (by simp [U64.enc]; omega), show (j + 1) * 2 + 1 - (U64.enc y).length = j * 2 + 1 by simp [U64.enc]; omega]
  unfold RowR
  rw [e]
  simp [World.setCell, Array.getElem?_modify, h0]
end Go.Proofs.YtdkhhofgfbnmkaaGreat
/- Ranges that are laid behind one another: append of ranges; bulkheadref3.All. Own work. -/
namespace Go.Proofs.YtdkhhofgfbnmkaaGreat
open Go.RowKit Go.Maps Go.Proofs.YtdkhhofgfbnmkaaGreat.Sp
/-- a row of ranges that is owned from base on -/
def OwnRg (w : World) (base : Nat) (v : Value) (xs : List Sp) : Prop := w.ownsRow base 65 2 v xs.length (U64.encs xs)
theorem OwnRg.sv {w : World} {base : Nat} {v : Value} {xs : List Sp} (h : OwnRg w base v xs) : U64.SV w v xs := by
  rcases h.2 with ⟨rfl, h0⟩ | ⟨g, cap, cur, rfl, hb, hg, hnc, hcm, hcs, ht⟩
  · obtain rfl := List.eq_nil_of_length_eq_zero h0
    exact U64.SV.nil w
  · refine ⟨_, cap, rfl, hnc, hcm, fun e => (by cases e), fun a e => (by cases e; exact ⟨g, 0, rfl, (Array.getElem?_eq_some_iff.1 hg).1⟩), fun j hj => ⟨g, 0, rfl, ?_, ?_⟩⟩
    · rw [Nat.zero_add, cell_of_row w g (j * 2) _ _ _ hg, ← Array.getElem?_toList, ← U64.encs_get0 xs j hj, ← ht, List.getElem?_take_of_lt (by omega)]
    · rw [Nat.zero_add, cell_of_row w g (j * 2 + 1) _ _ _ hg, ← Array.getElem?_toList, ← U64.encs_get1 xs j hj, ← ht, List.getElem?_take_of_lt (by omega)]
theorem OwnRg.nil (w : World) (base : Nat) : OwnRg w base (.slice none 0 0) [] := ⟨rfl, .inl ⟨rfl, rfl⟩⟩
theorem OwnRg.form {w : World} {base : Nat} {v : Value} {xs : List Sp} (h : OwnRg w base v xs) : ∃ a c, v = .slice a xs.length c ∧ ∀ j, v.ownBlock = some j → base ≤ j := by
  rcases h.2 with ⟨rfl, h0⟩ | ⟨g, cap, cur, rfl, hb, _⟩
  · exact ⟨none, 0, by rw [h0], fun j e => by cases e⟩
  · exact ⟨_, cap, rfl, fun j e => by cases e; exact hb⟩
theorem sv_cells {w : World} {b o : Nat} {n c : Nat} {xs : List Sp} (h : U64.SV w (.slice (some ⟨b, o, none⟩) n c) xs) (j : Nat) (u : Value) (hj : (U64.encs xs)[j]? = some u) : w.cell? (Addr.add ⟨b, o, none⟩ j) = some u := by
  obtain ⟨ao, cap, e, h1, h2, h3, h9, h4⟩ := h
  have hjl : j < xs.length * 2 := by have := (List.getElem?_eq_some_iff.1 hj).1; rw [U64.encs_length] at this; exact this
  obtain ⟨b', o', e', c0, c1⟩ := h4 (j / 2) (by omega)
  rw [e'] at e
  cases e
  rw [Addr.add_lit]
  rcases (by omega : j % 2 = 0 ∨ j % 2 = 1) with e | e
  · rw [show j = j / 2 * 2 by omega, U64.encs_get0 xs (j / 2) (by omega)] at hj
    rw [show j = j / 2 * 2 by omega, c0]
    exact hj
  · rw [show j = j / 2 * 2 + 1 by omega, U64.encs_get1 xs (j / 2) (by omega)] at hj
    rw [show j = j / 2 * 2 + 1 by omega, ← Nat.add_assoc, c1]
    exact hj
/-- ranges are laid behind a row that is owned -/
theorem run_appR {w : World} {base : Nat} {v l : Value} {xs ys : List Sp} (ty : TypeId) (hv : OwnRg w base v xs) (hl : U64.SV w l ys) (hlen : xs.length + ys.length ≤ 8796093022208) (hbase : base ≤ w.heap.size) :
    ∃ v' w', (Builtin.append_ #[22, 22] ty #[v, l]).run Tryz.prog w = .ok v' w' ∧ OwnRg w' base v' (xs ++ ys) ∧ w.grownBy w' v.ownBlock := by
  obtain ⟨i, hi, hz0, hz1, hz2⟩ := info_parts info_rg
  have hl' := hl
  obtain ⟨ao, cap, rfl, h1, h2, h3, h9, h4⟩ := hl'
  cases ao with
  | none =>
    obtain ⟨rfl, rfl⟩ := h3 rfl
    rw [List.append_nil]
    rcases id hv.2 with ⟨rfl, h0⟩ | ⟨g, cap, cur, rfl, hb, hg, hnc, hcm, hcs, ht⟩
    · refine ⟨.slice none 0 0, w, ?_, hv, ⟨rfl, rfl, rfl, Nat.le_refl _, fun _ _ _ => rfl⟩⟩
      simp [Builtin.append_, run_underlying Tryz.underlying22, sizeOf, typeInfo, hi, Builtin.lenOf, Builtin.firstCells]
    · refine ⟨_, w, ?_, hv, ⟨rfl, rfl, rfl, Nat.le_refl _, fun _ _ _ => rfl⟩⟩
      have := run_append_room_src (P := Tryz.prog) w 22 22 ty 65 i Tryz.underlying22 hi g 0 xs.length cap (.slice none 0 0) 0 [] (Src.ofNil w Tryz.underlying22 0) (by omega) (fun j hj => absurd hj (by simp)) (fun j hj => absurd hj (by simp))
      exact this
  | some a =>
    obtain ⟨b, o, rfl, hlt⟩ := h9 a rfl
    obtain ⟨v', w', r1, r2, r3, _⟩ := run_append_own_at (P := Tryz.prog) w base 22 ty 65 i _ 2 _ Tryz.underlying22 hi hz0 hz1 hz2 rfl (by omega) v xs.length (U64.encs xs) hv ⟨b, o, none⟩ ys.length cap (U64.encs ys) (by rw [U64.encs_length]) (fun j u hj => sv_cells hl j u hj) (U64.encs_one ys) (by unfold maxLen; omega) (by omega) hbase
    refine ⟨v', w', r1, ?_, r3⟩
    unfold OwnRg
    rw [List.length_append, U64.encs_append]
    exact r2
theorem wpList_appR {w : World} {base : Nat} {ops : Array Oper} {rest : List Oper} {o : Oper} {a : Act} {Q : Exit → Act → World → Prop} (hgd : o.guard = none) (s x : Operand)
    (ho : o.op = .call { callee := .builtin .append, args := #[s, x], argTypes := #[22, 22] }) {v l : Value} {xs ys : List Sp} (hs : a.eval s = v) (hx : a.eval x = l) (hv : OwnRg w base v xs) (hl : U64.SV w l ys) (hlen : xs.length + ys.length ≤ 8796093022208) (hbase : base ≤ w.heap.size)
    (h : ∀ va vn vc w', Hid (OwnRg w' base (.slice va vn vc) (xs ++ ys)) → Hid (w.grownBy w' v.ownBlock) → wpList Tryz.prog ops Q rest (a.put o.dst (.slice va vn vc)) w') : wpList Tryz.prog ops Q (o :: rest) a w := by
  refine wpList_plain hgd fun K hK => ?_
  obtain ⟨v', w', hr, h2, h3⟩ := run_appR o.type hv hl hlen hbase
  obtain ⟨va, vc, rfl, _⟩ := h2.form
  unfold Oper.wp
  simp only [execOp, ho, resolve, invoke, builtin, Sem.run_bind, Sem.run_pure, List.map_toArray, List.map_cons, List.map_nil, hs, hx, hr, Result.andThen_ok]
  exact hK _ _ (h va _ vc w' h2 h3)
set_option maxRecDepth 100000 in
set_option maxHeartbeats 2000000 in
theorem all_any {w : World} {vr vd : Value} {rs ds : List Sp} (hr : U64.SV w vr rs) (hd : U64.SV w vd ds) (hl : rs.length + ds.length ≤ 8796093022208) :
    Calls Tryz.prog 18 #[.agg #[vr, vd]] w fun e w' => ∃ a n c, e = .returned (.slice a n c) ∧ Hid (Below w.heap.size w w') ∧ Hid (U64.SV w' (.slice a n c) (rs ++ ds)) ∧ Hid (∀ j, (Value.slice a n c).ownBlock = some j → w.heap.size ≤ j) := by
  have HB0 : Hid (Below w.heap.size w (w.alloc (Obj.cells #[vr, vd] 24))) := (Below.refl _ _).alloc (Nat.le_refl _) _
  have HR1 : Hid (U64.SV (w.alloc (Obj.cells #[vr, vd] 24)) vr rs) := hr.below HB0.out (Nat.le_refl _)
  have HD1 : Hid (U64.SV (w.alloc (Obj.cells #[vr, vd] 24)) vd ds) := hd.below HB0.out (Nat.le_refl _)
  have HX : Hid ((w.alloc (Obj.cells #[vr, vd] 24)).cell? ⟨w.heap.size, 1, none⟩ = some vd) := (U64.new2 rfl vr vd _).2
  clear hr hd
  go_enter Tryz.func18, Tryz.ntmps18
  go_wp2_with (refine wpList_appR rfl (.const (.slice none 0 0)) (.tmp 5) rfl (base := w.heap.size) rfl rfl (OwnRg.nil _ _) HR1.out (by simp; omega) (by simp) ?_)
  intro a1 n1 c1 w1 HO1 HG1
  have HB1 : Hid (Below (w.heap.size + 1) (w.alloc (Obj.cells #[vr, vd] 24)) w1) := below_grown HG1.out (by simp) (fun k e => by cases e)
  have x1 : w1.cell? ⟨w.heap.size, 1, none⟩ = some vd := (HB1.out.cell (p := ⟨w.heap.size, 1, none⟩) (Nat.lt_succ_self _)).trans HX.out
  have HD2 : Hid (U64.SV w1 vd ds) := HD1.out.below HB1.out (by simp)
  have HO2 : Hid (OwnRg w1 w.heap.size (.slice a1 n1 c1) rs) := HO1.out
  have HZ1 : Hid (w.heap.size ≤ w1.heap.size) := Nat.le_trans (by simp) HG1.out.size
  have HBw : Hid (Below w.heap.size w w1) := HB0.out.trans (HB1.out.mono (Nat.le_succ _))
  clear HO1 HG1 HR1 HD1 HX HB0 HB1
  go_wp2_with (refine wpList_appR rfl (.tmp 7) (.tmp 9) rfl (base := w.heap.size) rfl rfl HO2.out HD2.out (by omega) HZ1.out ?_)
  intro a2 n2 c2 w2 HO3 HG2
  have HB2 : Hid (Below w.heap.size w w2) := HBw.out.grown HG2.out HZ1.out (fun k e => by obtain ⟨_, _, _, h⟩ := HO2.out.form; exact h k e)
  clear HG2
  go_wp2_with fail
  go_ret
  exact ⟨a2, n2, c2, rfl, HB2, HO3.out.sv, fun j e => by obtain ⟨_, _, _, h⟩ := HO3.out.form; exact h j e⟩
/-- have two ranges no byte in common? -/
def apartB (a s b t : Int) : Bool := decide (a + s ≤ b ∨ b + t ≤ a)
set_option maxHeartbeats 1000000 in
theorem apart_any {a s b t : Int} (w : World) (ha : 0 ≤ a ∧ 0 ≤ s ∧ a + s ≤ 4294967296) (hb : 0 ≤ b ∧ 0 ≤ t ∧ b + t ≤ 4294967296) :
    Calls Tryz.prog 19 #[.agg #[.int .u64 a, .int .u64 s], .agg #[.int .u64 b, .int .u64 t]] w fun e w' => e = .returned (.bool (apartB a s b t)) ∧ Hid (Below w.heap.size w w') := by
  obtain ⟨a0, a1, a2⟩ := ha
  obtain ⟨b0, b1, b2⟩ := hb
  have HB : Hid (∀ X Y, Below w.heap.size w ((w.alloc X).alloc Y)) := fun X Y => ((Below.refl _ _).alloc (Nat.le_refl _) _).alloc (by simp) _
  by_cases h1 : a + s ≤ b
  · have HE : Hid (apartB a s b t = true) := decide_eq_true (.inl h1)
    go_enter Tryz.func19, Tryz.ntmps19
    go_wp2
    go_ret
    exact ⟨by rw [HE.out]; rfl, HB.out _ _⟩
  · by_cases h2 : b + t ≤ a
    · have HE : Hid (apartB a s b t = true) := decide_eq_true (.inr h2)
      go_enter Tryz.func19, Tryz.ntmps19
      go_wp2
      go_ret
      exact ⟨by rw [HE.out]; rfl, HB.out _ _⟩
    · have HE : Hid (apartB a s b t = false) := decide_eq_false (by omega)
      go_enter Tryz.func19, Tryz.ntmps19
      go_wp2
      go_ret
      exact ⟨by rw [HE.out]; rfl, HB.out _ _⟩
end Go.Proofs.YtdkhhofgfbnmkaaGreat
