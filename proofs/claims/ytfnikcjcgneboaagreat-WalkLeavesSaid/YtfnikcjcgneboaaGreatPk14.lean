import Derived.Test.YtfnikcjcgneboaaGreatPk12
import Derived.Test.YtfnikcjcgneboaaGreatPk13
/- Load, Fetch, Store over a machine. Own work. -/
namespace Go.Proofs.YtfnikcjcgneboaaGreat
open Go.RowKit Go.Maps Go.Proofs.YtfnikcjcgneboaaGreat.Sp Wk
set_option maxRecDepth 100000 in
set_option maxHeartbeats 2000000 in
theorem wload_any {w : World} {m B : Nat} {V : Value × Value × Value} {T : Nat → Option Nat} {M : Nat → Nat} {rs ds : List Sp} {n t v k : Nat} (h : Mx w m B V T M rs ds n) (ht : t ≤ 18446744073709551615) (hn : n ≤ 4611686018427370000) (hk : Wide k) :
    Calls Tryz.prog 19 #[MemV m, .int .u64 (t : Int), .int .u64 (v : Int), .int .i64 (k : Int)] w fun e w' => e = .returned (.tuple #[.int .u64 ((takeV (rs ++ ds) M t v 1 k).1 : Int), FaultV (takeV (rs ++ ds) M t v 1 k).2.1 ((takeV (rs ++ ds) M t v 1 k).2.2 : Int)]) ∧ Hid (Mx w' m B V T M rs ds (n + 32)) ∧ Hid (Keeps (fun j => j = m) w w') := by
  have HM : Hid (Mx w m B V T M rs ds n) := h
  have hml := h.lt
  have HT := Lib.hid (take_any (acc := 1) (v := v) (h.below ((Below.refl w.heap.size _).alloc (Nat.le_refl _) (Obj.cells #[.int .i64 0, .int .u64 0] 68))) ht hn hk)
  generalize takeV (rs ++ ds) M t v 1 k = r at *
  obtain ⟨z, why, x⟩ := r
  simp only at HT ⊢
  unfold MemV at HT ⊢
  clear h
  go_enter Tryz.func19, Tryz.ntmps19
  go_wp2_with fail
  refine HT.out.mono ?_
  rintro e w1 ⟨rfl, HM1, HK1⟩
  have HX1 : Hid (BoxF w1 w.heap.size 0 0) := (BoxF.new w 0 0).keeps HK1.out (by omega)
  obtain ⟨x0, x1, f0, f1⟩ := HX1.out.cells
  unfold FaultV
  clear HT
  go_wp2_with fail
  obtain ⟨d0, d1, _⟩ := (HX1.out.set why x).cells
  refine bodyPost_ret (v := .tuple #[.int .u64 (z : Int), .agg #[.int .i64 why, .int .u64 (x : Int)]]) (by simp [results, Tryz.results19, go_sem, d0, d1]) rfl ?_
  have hk2 := Keeps.two w1 w.heap.size (.int .i64 why) (.int .u64 (x : Int))
  have hk1 : Keeps (fun j => j = m) w w1 := (Keeps.alloc (S := fun j => j = m) w _).trans HK1.out (fun _ _ e => e)
  exact ⟨rfl, HM1.out.keeps hk2 (fun j hj e => by have := HM.out.mine_lt hj; omega), hk1.trans hk2 (fun i hi e => absurd e (by omega))⟩
set_option maxRecDepth 100000 in
set_option maxHeartbeats 2000000 in
theorem wfetch_any {w : World} {m B : Nat} {V : Value × Value × Value} {T : Nat → Option Nat} {M : Nat → Nat} {rs ds : List Sp} {n t v k : Nat} (h : Mx w m B V T M rs ds n) (ht : t ≤ 18446744073709551615) (hn : n ≤ 4611686018427370000) (hk : Wide k) :
    Calls Tryz.prog 20 #[MemV m, .int .u64 (t : Int), .int .u64 (v : Int), .int .i64 (k : Int)] w fun e w' => e = .returned (.tuple #[.int .u64 ((takeV (rs ++ ds) M t v 3 k).1 : Int), FaultV (takeV (rs ++ ds) M t v 3 k).2.1 ((takeV (rs ++ ds) M t v 3 k).2.2 : Int)]) ∧ Hid (Mx w' m B V T M rs ds (n + 32)) ∧ Hid (Keeps (fun j => j = m) w w') := by
  have HM : Hid (Mx w m B V T M rs ds n) := h
  have hml := h.lt
  have HT := Lib.hid (take_any (acc := 3) (v := v) (h.below ((Below.refl w.heap.size _).alloc (Nat.le_refl _) (Obj.cells #[.int .i64 0, .int .u64 0] 68))) ht hn hk)
  generalize takeV (rs ++ ds) M t v 3 k = r at *
  obtain ⟨z, why, x⟩ := r
  simp only at HT ⊢
  unfold MemV at HT ⊢
  clear h
  go_enter Tryz.func20, Tryz.ntmps20
  go_wp2_with fail
  refine HT.out.mono ?_
  rintro e w1 ⟨rfl, HM1, HK1⟩
  have HX1 : Hid (BoxF w1 w.heap.size 0 0) := (BoxF.new w 0 0).keeps HK1.out (by omega)
  obtain ⟨x0, x1, f0, f1⟩ := HX1.out.cells
  unfold FaultV
  clear HT
  go_wp2_with fail
  obtain ⟨d0, d1, _⟩ := (HX1.out.set why x).cells
  refine bodyPost_ret (v := .tuple #[.int .u64 (z : Int), .agg #[.int .i64 why, .int .u64 (x : Int)]]) (by simp [results, Tryz.results20, go_sem, d0, d1]) rfl ?_
  have hk2 := Keeps.two w1 w.heap.size (.int .i64 why) (.int .u64 (x : Int))
  have hk1 : Keeps (fun j => j = m) w w1 := (Keeps.alloc (S := fun j => j = m) w _).trans HK1.out (fun _ _ e => e)
  exact ⟨rfl, HM1.out.keeps hk2 (fun j hj e => by have := HM.out.mine_lt hj; omega), hk1.trans hk2 (fun i hi e => absurd e (by omega))⟩
/-- the memory with the first i bytes of a number laid where an access leads -/
noncomputable def stM (LL : List Sp) (M : Nat → Nat) (t v val : Nat) : Nat → Nat → Nat
  | 0 => M
  | i + 1 => putAt (stM LL M t v val i) (ad LL M t v 2 i).1 [(Pl.le 8 val).getD i 0]
/-- what Store answers and leaves -/
def WStP (w : World) (m B : Nat) (V : Value × Value × Value) (T : Nat → Option Nat) (M : Nat → Nat) (rs ds : List Sp) (n t v k val : Nat) (e : Ending) (w' : World) : Prop :=
  (∃ why x, reachF (rs ++ ds) M t v 2 k = some (why, x) ∧ e = .returned (FaultV why (x : Int)) ∧ Mx w' m B V T M rs ds (n + 32) ∧ Keeps (fun j => j = m) w w') ∨
  (reachF (rs ++ ds) M t v 2 k = none ∧ (∀ j, j < k → (ad (rs ++ ds) M t v 2 j).2 = 0 ∧ On (rs ++ ds) ((ad (rs ++ ds) M t v 2 j).1 : Int)) ∧ e = .returned (FaultV 0 0) ∧ ∃ T', Mx w' m B V T' (stM (rs ++ ds) M t v val k) rs ds (n + 32) ∧ Grows w.heap.size T T' ∧ Keeps (fun j => j = m ∨ Foot B T j) w w')
/-- where Store's loop stands -/
def StA (w w2 : World) (m B : Nat) (V : Value × Value × Value) (T : Nat → Option Nat) (M : Nat → Nat) (rs ds : List Sp) (n t v k val g gp cp base q : Nat) (wr : World) : Prop :=
  RowA wr g (upA (rs ++ ds) M t v 2 k k) ∧ Own wr base (.slice (some ⟨gp, 0, none⟩) 8 cp) (Pl.le 8 val) ∧ BoxF wr w.heap.size 0 0 ∧ Keeps (fun j => j = m ∨ Foot B T j) w wr ∧ w2.heap.size ≤ wr.heap.size ∧ ∃ T', Mx wr m B V T' (stM (rs ++ ds) M t v val q) rs ds (n + 16 + q) ∧ Grows w2.heap.size T T'
theorem StA.below {w w2 : World} {m B : Nat} {V : Value × Value × Value} {T : Nat → Option Nat} {M : Nat → Nat} {rs ds : List Sp} {n t v k val g gp cp base q : Nat} {wr wr' : World} (h : StA w w2 m B V T M rs ds n t v k val g gp cp base q wr) (hb : Below wr.heap.size wr wr') : StA w w2 m B V T M rs ds n t v k val g gp cp base q wr' := by
  obtain ⟨h1, h2, h3, h4, h5, T', h6, h7⟩ := h
  exact ⟨h1.below hb, h2.below hb, h3.below hb, h4.trans (Keeps.of_below (S := fun _ => False) hb) (fun _ _ h => h.elim), Nat.le_trans h5 hb.size, T', h6.below hb, h7⟩
theorem sta_store {w w2 : World} {m B : Nat} {V : Value × Value × Value} {T : Nat → Option Nat} {M : Nat → Nat} {rs ds : List Sp} {n t v k val g gp cp base q : Nat} {wr : World} (h : StA w w2 m B V T M rs ds n t v k val g gp cp base q wr) (hm : Mx w m B V T M rs ds n) (hg : w.heap.size < g ∧ g < w2.heap.size) (hgp : w.heap.size < gp ∧ gp < w2.heap.size) (hq : q < 8) (hn : n ≤ 4611686018427370000) (hon : On (rs ++ ds) ((ad (rs ++ ds) M t v 2 q).1 : Int)) (W : World) (hW : Below wr.heap.size wr W) :
    Calls Tryz.prog 22 #[.pointer (some ⟨m, 0, none⟩), .int .u64 ((ad (rs ++ ds) M t v 2 q).1 : Int), .int .i64 1, .int .u64 (((Pl.le 8 val).getD q 0 : Nat) : Int)] W fun e w' => e = .returned (.agg #[.int .i64 0, .int .u64 0]) ∧ w'.cell? ⟨gp, q, none⟩ = some (.int .u8 (((Pl.le 8 val).getD q 0 : Nat) : Int)) ∧ Hid (StA w w2 m B V T M rs ds n t v k val g gp cp base (q + 1) w') ∧ Hid (∀ b x y, wr.heap.size ≤ b → BoxF W b x y → BoxF w' b x y) ∧ Hid (∀ b u y, wr.heap.size ≤ b → b < W.heap.size → StA w w2 m B V T M rs ds n t v k val g gp cp base (q + 1) ((w'.setCell ⟨b, 0, none⟩ u).setCell ⟨b, 1, none⟩ y)) := by
  have hml := hm.lt
  have hft : ∀ j, Foot B T j → j < w.heap.size := fun j hj => hm.mine_lt (.inr (.inl hj))
  have h' := h.below hW
  obtain ⟨g1, g2, g3, g4, g5, T', hmxr, g7⟩ := h
  have hlow : ∀ j, Foot B T' j → j < wr.heap.size := fun j hj => hmxr.mine_lt (.inr (.inl hj))
  obtain ⟨h1, h2, h3, h4, h5, _⟩ := h'
  obtain ⟨L, S, X, l1, l2, l3, hmac⟩ := hmxr.below hW
  have h7 := g7
  have hmr := hmxr.lt
  have hz : (Pl.le 8 val).getD q 0 < 256 := by
    rw [List.getD_eq_getElem?_getD, List.getElem?_eq_getElem (by rw [Pl.le_length]; exact hq)]
    exact Pl.le_small 8 val _ (List.getElem_mem _)
  have ha := adrF_le (rs ++ ds) M t (vv v q) 2
  refine (store_any (n := 1) hmac ha (Or.inl rfl) (show (Pl.le 8 val).getD q 0 ≤ 18446744073709551615 by omega) (by omega) (by omega)).mono ?_
  rintro e w' ⟨x, b, ho, rfl, hk, _, hok⟩
  have hb : b = false := by
    cases b with
    | false => rfl
    | true =>
      obtain ⟨i, hi, _, _, hnn, _⟩ := ho.1 rfl
      obtain rfl : i = 0 := by omega
      have hon' : On (rs ++ ds) ((adrF (rs ++ ds) M t (vv v q) 2).1 : Int) := hon
      exact absurd (by simpa using hon') hnn
  subst hb
  obtain ⟨hx, _⟩ := ho.2 rfl
  subst hx
  obtain ⟨T'', hm2, hg2⟩ := hok rfl
  have hle1 : (Pl.le 8 ((Pl.le 8 val).getD q 0)).take 1 = [(Pl.le 8 val).getD q 0] := by
    generalize (Pl.le 8 val).getD q 0 = z at hz
    show [z % 256] = [z]
    rw [Nat.mod_eq_of_lt hz]
  rw [hle1] at hm2
  have hno : ∀ j, w.heap.size ≤ j → j < w2.heap.size → ¬ (j = m ∨ Foot B T' j) := fun j hj1 hj2 hj => by
    rcases hj with rfl | hj
    · omega
    · have := hft j (h7.foot hj hj2); omega
  have hown' := h2.keeps hk (fun k e => by cases e; exact hno gp (by omega) hgp.2)
  have hrow' := h1.keeps hk (hno g (by omega) hg.2)
  have hbx' := h3.keeps hk (hno _ (Nat.le_refl _) (by omega))
  have hks' := h4.trans hk (fun i hi e => e.imp id (fun hj => h7.foot hj (by omega)))
  have hmx' : Mx w' m B V T'' (stM (rs ++ ds) M t v val (q + 1)) rs ds (n + 16 + (q + 1)) := ⟨L, S + 1, X, by omega, by omega, by omega, hm2⟩
  refine ⟨rfl, hown'.cell q (by rw [Pl.le_length]; exact hq), ⟨hrow', hown', hbx', hks', Nat.le_trans h5 hk.size, T'', hmx', h7.trans hg2 h5⟩, fun b x y hb hbox => hbox.keeps hk (fun e => e.elim (fun e => by omega) (fun hj => by have := hlow b hj; omega)), fun b u y hb1 hb2 => ?_⟩
  have hk5 := Keeps.two w' b u y
  refine ⟨hrow'.keeps hk5 (show ¬ g = b by omega), hown'.keeps hk5 (fun k e => by cases e; show ¬ gp = b; omega), hbx'.keeps hk5 (show ¬ w.heap.size = b by omega), hks'.trans hk5 (fun i hi e => absurd (show i = b from e) (by have := h4.size; have := hW.size; omega)), Nat.le_trans (Nat.le_trans h5 hk.size) hk5.size, T'', hmx'.keeps hk5 (fun j hj e => ?_), h7.trans hg2 h5⟩
  have e : j = b := e
  rcases hj with rfl | hj | ⟨u', hu, hj⟩
  · omega
  · have := hlow j (hg2.foot hj (by omega)); omega
  · have := hmxr.mine_lt (.inr (.inr ⟨u', hu, hj⟩)); omega
set_option maxRecDepth 100000 in
set_option maxHeartbeats 8000000 in
theorem wstore_any {w : World} {m B : Nat} {V : Value × Value × Value} {T : Nat → Option Nat} {M : Nat → Nat} {rs ds : List Sp} {n t v k val : Nat} (h : Mx w m B V T M rs ds n) (ht : t ≤ 18446744073709551615) (hval : val ≤ 18446744073709551615) (hn : n ≤ 4611686018427370000) (hk : Wide k) :
    Calls Tryz.prog 28 #[MemV m, .int .u64 (t : Int), .int .u64 (v : Int), .int .i64 (k : Int), .int .u64 (val : Int)] w (WStP w m B V T M rs ds n t v k val) := by
  have HM : Hid (Mx w m B V T M rs ds n) := h
  have hml := h.lt
  have k8 : k ≤ 8 := by rcases hk with h | h | h | h <;> omega
  have HRe : Hid (Calls Tryz.prog 59 #[MemV m, .int .u64 (t : Int), .int .u64 (v : Int), .int .i64 (k : Int), .int .i64 2] (w.alloc (Obj.cells #[.int .i64 0, .int .u64 0] 68)) fun e w' => ReachP (w.alloc (Obj.cells #[.int .i64 0, .int .u64 0] 68)) (rs ++ ds) M t v 2 k e w' ∧ Hid (Mx w' m B V T M rs ds (n + 16)) ∧ Hid (Keeps (fun j => j = m) (w.alloc (Obj.cells #[.int .i64 0, .int .u64 0] 68)) w')) := reached_any (h.below ((Below.refl _ _).alloc (Nat.le_refl _) _)) ht (by omega) hk
  have hme : ∀ (w : World) (p : Option Addr), (method 323 28 (.pointer p) "Store").run Tryz.prog w = .ok (22, .pointer p) w := fun _ _ => by kernel_rfl
  have hna : ∀ (W : World) (a : Addr), (nilAhead 323 28 (.pointer (some a)) "Store").run Tryz.prog W = .ok (some false) W := fun _ _ => by kernel_rfl
  have HX0 : Hid (BoxF (w.alloc (Obj.cells #[.int .i64 0, .int .u64 0] 68)) w.heap.size 0 0) := BoxF.new w 0 0
  unfold MemV at HRe ⊢
  clear hk h
  go_enter Tryz.func28, Tryz.ntmps28
  go_wp2_with fail
  refine HRe.out.mono ?_
  rintro e w1 ⟨hP, HM1, HK1⟩
  have HX1 : Hid (BoxF w1 w.heap.size 0 0) := HX0.out.keeps HK1.out (by omega)
  have HKw1 : Hid (Keeps (fun j => j = m) w w1) := (Keeps.alloc (S := fun j => j = m) w _).trans HK1.out (fun _ _ e => e)
  have hlt1 := HX1.out.lt
  clear HRe HX0 HK1
  rcases hP with ⟨why, x, hre, rfl⟩ | ⟨hre, hall, g, rfl, hg, hrow⟩
  · have HRe : Hid (reachF (rs ++ ds) M t v 2 k = some (why, x)) := hre
    have h0 := reach_why hre
    have h0e : (why == 0) = false := by simpa using h0
    obtain ⟨W3, hW3⟩ : ∃ W3, w1.alloc (Obj.cells #[.int .i64 why, .int .u64 (x : Int)] 68) = W3 := ⟨_, rfl⟩
    have HF3 : Hid (BoxF W3 w1.heap.size why x) := hW3 ▸ BoxF.new w1 why x
    have HX3 : Hid (BoxF W3 w.heap.size 0 0) := hW3 ▸ HX1.out.below ((Below.refl _ _).alloc (Nat.le_refl _) _)
    have HB3 : Hid (Below w1.heap.size w1 W3) := hW3 ▸ (Below.refl _ _).alloc (Nat.le_refl _) _
    have hne : w.heap.size ≠ w1.heap.size := by omega
    obtain ⟨x0, x1, f0, f1⟩ := HX3.out.cells
    obtain ⟨y0, y1, _, _⟩ := HF3.out.cells
    unfold FaultV
    clear hre
    go_wp2_with fail
    clear hW3
    obtain ⟨d0, d1, _⟩ := (HX3.out.set why x).cells
    refine bodyPost_ret (v := .agg #[.int .i64 why, .int .u64 (x : Int)]) (by simp [results, Tryz.results28, go_sem, d0, d1]) rfl ?_
    have hk2 := Keeps.two W3 w.heap.size (.int .i64 why) (.int .u64 (x : Int))
    exact .inl ⟨why, x, HRe.out, rfl, ((HM1.out.mono (by omega)).below HB3.out).keeps hk2 (fun j hj e => by have := HM.out.mine_lt hj; omega), (HKw1.out.trans (Keeps.of_below (S := fun _ => False) HB3.out) (fun _ _ h => h.elim)).trans hk2 (fun i hi e => absurd e (by omega))⟩
  · have HRe : Hid (reachF (rs ++ ds) M t v 2 k = none) := hre
    have HAll : Hid (∀ j, j < k → (ad (rs ++ ds) M t v 2 j).2 = 0 ∧ On (rs ++ ds) ((ad (rs ++ ds) M t v 2 j).1 : Int)) := hall
    have HRw : Hid (RowA w1 g (upA (rs ++ ds) M t v 2 k k)) := hrow
    have hgl : w.heap.size < g ∧ g < w1.heap.size := ⟨by simp at hg; omega, hrow.lt⟩
    obtain ⟨hg1, hg2⟩ := hgl
    have HPut := Lib.hid (put_nil (n := val) (w1.alloc (Obj.cells #[.int .i64 0, .int .u64 0] 68)) hval)
    clear hre hall hrow hg
    unfold FaultV
    go_wp2_with fail
    refine HPut.out.mono ?_
    rintro e w2 ⟨vp, rfl, hown, hb2⟩
    obtain ⟨gp, cp, hvp, hgp, hgp2, hcp, hcm⟩ := hown.form (by rw [Pl.le_length]; omega)
    rw [Pl.le_length] at hvp hcp
    subst hvp
    have HOw : Hid (Own w2 (w1.alloc (Obj.cells #[.int .i64 0, .int .u64 0] 68)).heap.size (.slice (some ⟨gp, 0, none⟩) 8 cp) (Pl.le 8 val)) := hown
    have HB2 : Hid (Below w1.heap.size w1 w2) := ((Below.refl _ _).alloc (Nat.le_refl _) _).trans (hb2.mono (by simp))
    have hgp1 : w1.heap.size < gp := by simp at hgp; omega
    have HX2 : Hid (BoxF w2 w.heap.size 0 0) := HX1.out.below HB2.out
    have HRw2 : Hid (RowA w2 g (upA (rs ++ ds) M t v 2 k k)) := HRw.out.below HB2.out
    have HM2 : Hid (Mx w2 m B V T M rs ds (n + 16)) := HM1.out.below HB2.out
    have HKw2 : Hid (Keeps (fun j => j = m) w w2) := HKw1.out.trans (Keeps.of_below (S := fun _ => False) HB2.out) (fun _ _ h => h.elim)
    clear hown hb2 hgp HPut HX1 HRw HM1 HKw1
    have HSt0 : Hid (StA w w2 m B V T M rs ds n t v k val g gp cp (w1.alloc (Obj.cells #[.int .i64 0, .int .u64 0] 68)).heap.size 0 w2) := ⟨HRw2.out, HOw.out, HX2.out, HKw2.out.mono (fun _ _ e => .inl e), Nat.le_refl _, T, HM2.out, Grows.refl _ _⟩
    have hgg : g < w2.heap.size := HRw2.out.lt
    generalize hbs : (w1.alloc (Obj.cells #[.int .i64 0, .int .u64 0] 68)).heap.size = bs at *
    clear hbs HRw2 HOw HX2 HKw2 HM2
    go_wp2_with fail
    go_loopw [33] (fun iv wr => ∃ q : Nat, q ≤ k ∧ iv = .int .i64 (q : Int) ∧ Hid (StA w w2 m B V T M rs ds n t v k val g gp cp bs q wr)) (fun iv _ => k - (intOf iv).toNat)
    case atStart => exact ⟨0, Nat.zero_le _, rfl, HSt0⟩
    case round =>
      clear HSt0
      obtain ⟨q, hq, rfl, HS⟩ := hrel
      by_cases hlt : q < k
      · have y0 := HS.out.1.cell q (by rw [upA_len]; exact hlt)
        rw [upA_get _ _ _ _ _ _ _ hlt] at y0
        have z0 := HS.out.2.1.cell q (by rw [Pl.le_length]; omega)
        have HCl := Lib.hid (sta_store HS.out HM.out ⟨hg1, hgg⟩ ⟨by omega, hgp2⟩ (by omega) hn (HAll.out q hlt).2)
        have hz : (Pl.le 8 val).getD q 0 < 256 := by
          rw [List.getD_eq_getElem?_getD, List.getElem?_eq_getElem (by rw [Pl.le_length]; omega)]
          exact Pl.le_small 8 val _ (List.getElem_mem _)
        generalize (ad (rs ++ ds) M t v 2 q).1 = r1 at *
        generalize (Pl.le 8 val).getD q 0 = z at *
        have qi : (q : Int) < (k : Int) := by omega
        have q8 : (q : Int) < 8 := by omega
        have q8n : q < 8 := by omega
        have HBd : Hid (Below wr.heap.size wr wr.drew) := (Below.refl _ _).drew
        have hzw : IntKind.u64.wrap (z : Int) = (z : Int) := by rw [IntKind.wrap_u64]; omega
        go_wp2_with fail
        have hnew : gp ≠ wr.heap.size := by have := HS.out.2.2.2.2.1; omega
        go_region_held3 (fun w' => w'.cell? ⟨gp, q, none⟩ = some (.int .u8 ((z : Nat) : Int))) (first | exact (U64.set_other hnew).trans ((U64.set_other hnew).trans z3) | go_keep) (first | (go_at_call 22; first | (refine (HCl.out _ HBd.out).mono ?_; rintro e w3 ⟨rfl, z3, HS3, HZ3, HY3⟩) | (refine (HCl.out _ (HBd.out.alloc HBd.out.size _)).mono ?_; rintro e w3 ⟨rfl, z3, HS3, HZ3, HY3⟩; obtain ⟨k0, k1, k2, k3⟩ := (HZ3.out wr.heap.size 0 0 (Nat.le_refl _) (BoxF.new wr.drew 0 0)).cells)))
        · go_wp2_with fail
          go_roundw
          case rel => exact ⟨q + 1, by omega, by go_num, HS3.out.below ((Below.refl _ _).alloc (Nat.le_refl _) _)⟩
          case measure => simp [intOf]; omega
        all_goals
          go_wp2_with fail
          go_roundw
          case rel => exact ⟨q + 1, by omega, by go_num, HY3.out wr.heap.size _ _ (Nat.le_refl _) (by simp)⟩
          case measure => simp [intOf]; omega
      · obtain rfl : q = k := by omega
        obtain ⟨x0, x1, f0, f1⟩ := HS.out.2.2.1.cells
        have HXr : Hid (BoxF wr w.heap.size 0 0) := HS.out.2.2.1
        go_wp2_with fail
        obtain ⟨d0, d1, _⟩ := (HXr.out.set 0 0).cells
        refine bodyPost_ret (v := .agg #[.int .i64 0, .int .u64 0]) (by simp [results, Tryz.results28, go_sem, d0, d1]) rfl ?_
        have hk2 := Keeps.two wr w.heap.size (.int .i64 0) (.int .u64 0)
        obtain ⟨_, _, _, h4, h5, T', h6, h7⟩ := HS.out
        refine .inr ⟨HRe.out, HAll.out, rfl, T', (h6.mono (by omega)).keeps hk2 (fun j hj e => ?_), fun k g e => (h7 k g e).imp id (fun h => by omega), h4.trans hk2 (fun i hi e => absurd e (by omega))⟩
        have e : j = w.heap.size := e
        rcases hj with rfl | hj | ⟨u, hu, hj⟩
        · omega
        · have := HM.out.mine_lt (.inr (.inl (h7.foot hj (by omega)))); omega
        · have := HM.out.mine_lt (.inr (.inr ⟨u, hu, hj⟩)); omega
end Go.Proofs.YtfnikcjcgneboaaGreat
