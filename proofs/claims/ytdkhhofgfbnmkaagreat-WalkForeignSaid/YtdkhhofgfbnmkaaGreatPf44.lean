import Derived.Test.YtdkhhofgfbnmkaaGreatPf43
import Derived.Test.YtdkhhofgfbnmkaaGreatPf14
import Derived.Test.YtdkhhofgfbnmkaaGreatPf15
import Derived.Test.YtdkhhofgfbnmkaaGreatPf31
/- Translate and reached over the tape. Own work. -/
namespace Go.Proofs.YtdkhhofgfbnmkaaGreat
open Go.RowKit Go.Maps Go.Proofs.YtdkhhofgfbnmkaaGreat.Sp Wk
set_option maxRecDepth 100000 in
set_option maxHeartbeats 4000000 in
theorem translate_t {w : World} {w0 : World} {m base : Nat} {vr vd vp : Value} {ps : List (Int × Nat)} {M : Nat → Nat} {rs ds : List Sp} {L S n t v : Nat} {acc : Int} (h : Ty w m w0 base vr vd vp ps M rs ds L S n) (ht : t ≤ 18446744073709551615) (hv : v ≤ 18446744073709551615) (hn : n ≤ 4611686018427387904) :
    Calls Tryz.prog 20 #[MemT m, .int .u64 (t : Int), .int .u64 (v : Int), .int .i64 acc] w fun e w' => e = .returned (.tuple #[.int .u64 ((adrF (rs ++ ds) M t v acc).1 : Int), FaultV (adrF (rs ++ ds) M t v acc).2 (whyAt (adrF (rs ++ ds) M t v acc).2 v : Int)]) ∧ Hid (Ty w' m w0 base vr vd vp ps M rs ds L S (n + 1)) ∧ Hid (Keeps (fun j => j = m) w w') := by
  have HX : Hid (Ty w m w0 base vr vd vp ps M rs ds L S n) := h
  have hml := h.lt
  obtain ⟨r, hr⟩ : ∃ r, r = adrF (rs ++ ds) M t v acc := ⟨_, rfl⟩
  have HZ : Hid (r.2 ≠ 0 → r.1 = 0) := by rw [hr]; exact adrF_zero
  have HA : Hid (Calls Tryz.prog 43 #[MemT m, .int .u64 (t : Int), .int .u64 (v : Int), .int .i64 acc] (w.alloc (Obj.cells #[.int .i64 0, .int .u64 0] 57)) fun e w' => e = .returned (.tuple #[.int .u64 (r.1 : Int), .int .i64 r.2]) ∧ Hid (Ty w' m w0 base vr vd vp ps M rs ds L S (n + 1)) ∧ Hid (Keeps (fun j => j = m) (w.alloc (Obj.cells #[.int .i64 0, .int .u64 0] 57)) w')) := by
    obtain ⟨X, h3, h4⟩ := h
    refine (address_t (h4.below ((Below.refl _ _).alloc (Nat.le_refl _) _)) ht hv (by omega)).mono ?_
    rintro e w' ⟨r', b, rfl, ha, hm, hk⟩
    rw [addr_is ha, ← hr]
    exact ⟨rfl, ⟨up b X, by cases b <;> simp [up] <;> omega, hm⟩, hk⟩
  rw [← hr]
  unfold MemT at HA ⊢
  clear h hr
  obtain ⟨r1, r2⟩ := r
  simp only at HZ HA ⊢
  by_cases h0 : r2 = 0
  · subst h0
    go_enter Tryz.func20, Tryz.ntmps20
    go_wp2_with fail
    refine HA.out.mono ?_
    rintro e w1 ⟨rfl, HM1, HK1⟩
    have HX1 : Hid (BoxF w1 w.heap.size 0 0) := (BoxF.new w 0 0).keeps HK1.out (by omega)
    obtain ⟨x0, x1, f0, f1⟩ := HX1.out.cells
    clear HA
    go_wp2_with fail
    obtain ⟨d0, d1, _⟩ := (HX1.out.set 0 0).cells
    refine bodyPost_ret (v := .tuple #[.int .u64 (r1 : Int), .agg #[.int .i64 0, .int .u64 0]]) (by simp [results, Tryz.results20, go_sem, d0, d1]) rfl ?_
    have hk2 := Keeps.two w1 w.heap.size (.int .i64 0) (.int .u64 0)
    have hk1 : Keeps (fun j => j = m) w w1 := (Keeps.alloc (S := fun j => j = m) w _).trans HK1.out (fun _ _ e => e)
    exact ⟨rfl, HM1.out.keeps hk2 (fun j hj e => by have := HX.out.mine_lt hj; omega), hk1.trans hk2 (fun i hi e => absurd e (by omega))⟩
  · have h1 := HZ.out h0
    subst h1
    have HW : Hid (whyAt r2 v = v) := if_neg h0
    have h0e : (r2 == 0) = false := by simpa using h0
    go_enter Tryz.func20, Tryz.ntmps20
    go_wp2_with fail
    refine HA.out.mono ?_
    rintro e w1 ⟨rfl, HM1, HK1⟩
    have HX1 : Hid (BoxF w1 w.heap.size 0 0) := (BoxF.new w 0 0).keeps HK1.out (by omega)
    obtain ⟨x0, x1, f0, f1⟩ := HX1.out.cells
    clear HA
    go_wp2_with fail
    obtain ⟨d0, d1, _⟩ := (HX1.out.set r2 v).cells
    refine bodyPost_ret (v := .tuple #[.int .u64 0, .agg #[.int .i64 r2, .int .u64 (v : Int)]]) (by simp [results, Tryz.results20, go_sem, d0, d1]) rfl ?_
    have hk2 := Keeps.two w1 w.heap.size (.int .i64 r2) (.int .u64 (v : Int))
    have hk1 : Keeps (fun j => j = m) w w1 := (Keeps.alloc (S := fun j => j = m) w _).trans HK1.out (fun _ _ e => e)
    exact ⟨by rw [HW.out]; rfl, HM1.out.keeps hk2 (fun j hj e => by have := HX.out.mine_lt hj; omega), hk1.trans hk2 (fun i hi e => absurd e (by omega))⟩
set_option maxRecDepth 100000 in
set_option maxHeartbeats 8000000 in
theorem reached_t {w : World} {w0 : World} {m base : Nat} {vr vd vp : Value} {ps : List (Int × Nat)} {M : Nat → Nat} {rs ds : List Sp} {L S n t v k : Nat} {acc : Int} (h : Ty w m w0 base vr vd vp ps M rs ds L S n) (ht : t ≤ 18446744073709551615) (hn : n ≤ 4611686018427380000) (hk : Wide k) :
    Calls Tryz.prog 49 #[MemT m, .int .u64 (t : Int), .int .u64 (v : Int), .int .i64 (k : Int), .int .i64 acc] w fun e w' => ReachP w (rs ++ ds) M t v acc k e w' ∧ Hid (Ty w' m w0 base vr vd vp ps M rs ds L S (n + 16)) ∧ Hid (Keeps (fun j => j = m) w w') := by
  have HM : Hid (Ty w m w0 base vr vd vp ps M rs ds L S n) := h
  have hml := h.lt
  have k1 : 1 ≤ k := by rcases hk with h | h | h | h <;> omega
  have k8 : k ≤ 8 := by rcases hk with h | h | h | h <;> omega
  have HTr : Hid (∀ W i, i < k → Ty W m w0 base vr vd vp ps M rs ds L S (n + i) → Calls Tryz.prog 20 #[MemT m, .int .u64 (t : Int), .int .u64 (vv v i : Int), .int .i64 acc] W fun e w' => e = .returned (.tuple #[.int .u64 ((ad (rs ++ ds) M t v acc i).1 : Int), FaultV (ad (rs ++ ds) M t v acc i).2 (whyAt (ad (rs ++ ds) M t v acc i).2 (vv v i) : Int)]) ∧ Hid (Ty w' m w0 base vr vd vp ps M rs ds L S (n + i + 1)) ∧ Hid (Keeps (fun j => j = m) W w')) := fun W i hi hW => translate_t hW ht (by unfold vv; omega) (by omega)
  have HPk : Hid (∀ W i, i < k → ∀ a : Nat, a ≤ 18446744073709551615 → Ty W m w0 base vr vd vp ps M rs ds L S (n + k + i) → Calls Tryz.prog 142 #[.agg #[.pointer (some ⟨m, 0, none⟩)], .int .u64 (a : Int), .int .i64 1] W fun e w' => ∃ x b z, e = .returned (.tuple #[.int .u64 z, FaultV (if b then 30 else 0) x]) ∧ Hid (b = true ↔ ¬ On (rs ++ ds) (a : Int)) ∧ Hid (Ty w' m w0 base vr vd vp ps M rs ds L S (n + k + i + 1)) ∧ Hid (Keeps (fun j => j = m) W w')) := fun W i hi a ha ⟨X, h3, h4⟩ => by
    refine (tpeek_any (k := 1) h4 ha (Or.inl rfl) (by omega)).mono ?_
    rintro e w' ⟨x, b, ho, rfl, hm, hk⟩
    refine ⟨x, b, _, rfl, ?_, ⟨up b X, by cases b <;> simp [up] <;> omega, hm⟩, hk⟩
    cases b with
    | true =>
      obtain ⟨i, hi, _, _, hn, _⟩ := ho.1 rfl
      obtain rfl : i = 0 := by omega
      exact ⟨fun _ => by simpa using hn, fun _ => rfl⟩
    | false =>
      have := (ho.2 rfl).2 0 (by omega)
      exact ⟨fun h => (by cases h), fun h => absurd (by simpa using this) h⟩
  have HAd : Hid (∀ i, (ad (rs ++ ds) M t v acc i).1 ≤ 18446744073709551615) := fun i => adrF_le _ _ _ _ _
  have hme : ∀ (w : World) (p : Value), (method 319 46 (.agg #[p]) "Peek").run Tryz.prog w = .ok (142, .agg #[p]) w := fun _ _ => by kernel_rfl
  generalize rs ++ ds = LL at *
  obtain ⟨i, hi, hz0, hz1, hz2⟩ := info_parts info_u64a
  have HIf : Hid (Tryz.prog.info? 34 = some i ∧ i.zero = some (.int .u64 0) ∧ i.size = 1 ∧ i.bytes = 8) := ⟨hi, hz0, hz1, hz2⟩
  have HK : Hid (Wide k) := hk
  have HX0 : Hid (BoxF (w.alloc (Obj.cells #[.int .i64 0, .int .u64 0] 57)) w.heap.size 0 0) := BoxF.new w 0 0
  unfold MemT at HTr ⊢
  clear hi hz0 hz1 hz2 hk h
  go_enter Tryz.func49, Tryz.ntmps49
  go_upto_block 0 with fail
  go_cut [] (fun wx => wx = w.alloc (Obj.cells #[.int .i64 0, .int .u64 0] 57))
  case first =>
    rcases HK.out with rfl | rfl | rfl | rfl
    · go_wp2_with fail
      go_meet
      exact rfl
    · go_wp2_with fail
      go_meet
      exact rfl
    · go_wp2_with fail
      go_meet
      exact rfl
    · go_wp2_with fail
      go_meet
      exact rfl
  case rest =>
    have hcut := hcut.symm
    subst hcut
    go_wp2_with (at_make; refine wpList_make_full _ rfl _ _ 109 rfl w.heap.size 34 i (.int .u64 0) 1 Tryz.underlying109 HIf.out.1 HIf.out.2.1 HIf.out.2.2.1 _ _ _ _ k rfl rfl (by omega) (by omega) (by rw [HIf.out.2.2.2]; omega) (by simp only [maxLen]; omega) (by simp) ?_)
    intro w1 hown hgrow
    have HR1 : Hid (RowA w1 (w.heap.size + 1) (upA LL M t v acc k 0)) := by rw [upA_zero]; exact madeA hown
    have hb1 : Below (w.heap.size + 1) (w.alloc (Obj.cells #[.int .i64 0, .int .u64 0] 57)) w1 := (Below.refl _ _).grown hgrow (by simp) (by simp)
    have HX1 : Hid (BoxF w1 w.heap.size 0 0) := (hb1.block w.heap.size (Nat.lt_succ_self _)).trans HX0.out
    have hbw : Below w.heap.size w w1 := ((Below.refl _ _).alloc (Nat.le_refl _) _).trans (hb1.mono (Nat.le_succ _))
    have HM1 : Hid (Ty w1 m w0 base vr vd vp ps M rs ds L S n) := HM.out.below hbw
    have HK1 : Hid (Keeps (fun j => j = m) w w1) := Keeps.of_below hbw
    clear hown hgrow hb1 hbw HX0 HIf
    go_wp2_with fail
    go_loopw [36] (fun iv wr => ∃ q : Nat, q ≤ k ∧ iv = .int .i64 (q : Int) ∧ Hid (RowA wr (w.heap.size + 1) (upA LL M t v acc k q)) ∧ Hid (BoxF wr w.heap.size 0 0) ∧ Hid (Ty wr m w0 base vr vd vp ps M rs ds L S (n + q)) ∧ Hid (Keeps (fun j => j = m) w wr) ∧ Hid (∀ j, j < q → (ad LL M t v acc j).2 = 0)) (fun iv _ => k - (intOf iv).toNat)
    case atStart => exact ⟨0, Nat.zero_le _, rfl, HR1, HX1, HM1, HK1, fun j hj => absurd hj (Nat.not_lt_zero _)⟩
    case round =>
      clear HR1 HX1 HM1 HK1
      obtain ⟨q, hq, rfl, HR, HXr, HMr, HKr, HZ⟩ := hrel
      by_cases hlt : q < k
      · have HCl := Lib.hid (HTr.out wr q hlt HMr.out)
        have hwv : IntKind.u64.wrap ((v : Int) + (q : Int)) = (vv v q : Int) := by rw [IntKind.wrap_u64, vv]; omega
        have HUp : Hid ((upA LL M t v acc k q).set q (ad LL M t v acc q).1 = upA LL M t v acc k (q + 1)) := upA_step _ _ _ _ _ _ _
        have HBad : Hid ((ad LL M t v acc q).2 ≠ 0 → reachF LL M t v acc k = some ((ad LL M t v acc q).2, vv v q)) := fun h => reach_tr HZ.out h hlt
        have HGo : Hid ((ad LL M t v acc q).2 = 0 → ∀ j, j < q + 1 → (ad LL M t v acc j).2 = 0) := fun h j hj => by
          by_cases e : j = q
          · rw [e]; exact h
          · exact HZ.out j (by omega)
        generalize ad LL M t v acc q = r at *
        obtain ⟨r1, r2⟩ := r
        simp only at HCl HUp HBad HGo
        generalize hx : vv v q = x at *
        clear hx
        go_wp2_with fail
        refine HCl.out.mono ?_
        rintro e w2 ⟨rfl, HM2, HK2⟩
        have hm1 : m < w.heap.size := hml
        have HX2 : Hid (BoxF w2 w.heap.size 0 0) := HXr.out.keeps HK2.out (by omega)
        have HR2 : Hid (RowA w2 (w.heap.size + 1) (upA LL M t v acc k q)) := HR.out.keeps HK2.out (by omega)
        have HKw2 : Hid (Keeps (fun j => j = m) w w2) := HKr.out.trans HK2.out (fun _ _ e => e)
        have hlt2 := HR2.out.lt
        clear HCl HK2
        unfold FaultV
        by_cases h0 : r2 = 0
        · subst h0
          obtain ⟨c0, hc0⟩ : ∃ c0, (upA LL M t v acc k q)[q]'(by rw [upA_len]; exact hlt) = c0 := ⟨_, rfl⟩
          have y0 := (HR2.out.below ((Below.refl _ _).alloc (Nat.le_refl _) (Obj.cells #[.int .i64 0, .int .u64 (whyAt 0 x : Int)] 57))).cell q (by rw [upA_len]; exact hlt)
          have y1 := (HR2.out.below ((Below.refl _ _).alloc (Nat.le_refl _) (Obj.cells #[.int .i64 0, .int .u64 (whyAt 0 x : Int)] 57))).thawed q
          rw [hc0] at y0
          clear hc0
          have qi : (q : Int) < (k : Int) := by omega
          generalize (whyAt 0 x : Int) = wa at *
          go_wp2_with fail
          go_roundw
          case rel =>
            have hk3 : Keeps (fun j => j = w.heap.size + 1) w2 (w2.setCell ⟨w.heap.size + 1, q, none⟩ (.int .u64 (r1 : Int))) := Keeps.setCell _ _ _ _
            have hb4 : Below (w2.setCell ⟨w.heap.size + 1, q, none⟩ (.int .u64 (r1 : Int))).heap.size (w2.setCell ⟨w.heap.size + 1, q, none⟩ (.int .u64 (r1 : Int))) ((w2.setCell ⟨w.heap.size + 1, q, none⟩ (.int .u64 (r1 : Int))).alloc (Obj.cells #[.int .i64 0, .int .u64 wa] 57)) := (Below.refl _ _).alloc (Nat.le_refl _) _
            have t1 := (HX2.out.keeps hk3 (show ¬ (w.heap.size = w.heap.size + 1) by omega)).below hb4
            have t2 := (HKw2.out.trans hk3 (fun i hi e => absurd (show i = w.heap.size + 1 from e) (Nat.ne_of_lt (Nat.lt_succ_of_lt hi)))).trans (Keeps.of_below (S := fun _ => False) hb4) (fun _ _ h => h.elim)
            refine ⟨q + 1, by omega, by go_num, ?_, t1, (HM2.out.keeps hk3 (fun j hj e => ?_)).below hb4, t2, HGo.out (by trivial)⟩
            · have := (HR2.out.set q r1).below hb4
              rw [HUp.out] at this
              exact this
            · have := HM.out.mine_lt hj
              have e : j = w.heap.size + 1 := e
              omega
          case measure => simp [intOf]; omega
        · have h0e : (r2 == 0) = false := by simpa using h0
          have HRc := HBad.out h0
          have hwx : whyAt r2 x = x := if_neg h0
          rw [hwx]
          obtain ⟨W3, hW3⟩ : ∃ W3, w2.alloc (Obj.cells #[.int .i64 r2, .int .u64 (x : Int)] 57) = W3 := ⟨_, rfl⟩
          have HF3 : Hid (BoxF W3 w2.heap.size r2 x) := hW3 ▸ BoxF.new w2 r2 x
          have HX3 : Hid (BoxF W3 w.heap.size 0 0) := hW3 ▸ HX2.out.below ((Below.refl _ _).alloc (Nat.le_refl _) _)
          have HB3 : Hid (Below w2.heap.size w2 W3) := hW3 ▸ (Below.refl _ _).alloc (Nat.le_refl _) _
          have hne : w.heap.size ≠ w2.heap.size := by omega
          obtain ⟨x0, x1, f0, f1⟩ := HX3.out.cells
          obtain ⟨y0, y1, _, _⟩ := HF3.out.cells
          go_wp2_with fail
          clear hW3
          go_region_held3 (fun w' => w'.cell? ⟨w2.heap.size, 0, none⟩ = some (.int .i64 r2) ∧ w'.cell? ⟨w2.heap.size, 1, none⟩ = some (.int .u64 (x : Int))) (go_keep) (fail)
          go_wp2_with fail
          obtain ⟨d0, d1, _⟩ := BoxF.cells (w := ((W3.setCell ⟨w.heap.size, 0, none⟩ (.int .i64 r2)).setCell ⟨w.heap.size, 1, none⟩ (.int .u64 (x : Int))).drew) (HX3.out.set r2 x)
          refine bodyPost_ret (v := .tuple #[.slice none 0 0, .agg #[.int .i64 r2, .int .u64 (x : Int)]]) (by simp [results, Tryz.results49, go_sem, d0, d1]) rfl ?_
          have hk2 : Keeps (fun j => j = w.heap.size) W3 (((W3.setCell ⟨w.heap.size, 0, none⟩ (.int .i64 r2)).setCell ⟨w.heap.size, 1, none⟩ (.int .u64 (x : Int))).drew) := (Keeps.two W3 w.heap.size (.int .i64 r2) (.int .u64 (x : Int))).drew
          exact ⟨.inl ⟨r2, x, HRc, rfl⟩, ((HM2.out.mono (by omega)).below HB3.out).keeps hk2 (fun j hj e => by have := HM.out.mine_lt hj; omega), (HKw2.out.trans (Keeps.of_below (S := fun _ => False) HB3.out) (fun _ _ h => h.elim)).trans hk2 (fun i hi e => absurd e (by omega))⟩
      · obtain rfl : q = k := by omega
        obtain ⟨w2, hw2⟩ : ∃ w2, w2 = wr := ⟨_, rfl⟩
        subst hw2
        clear HTr hlt hq
        go_wp2_with fail
        go_loopw [61] (fun iv wr => ∃ p : Nat, p ≤ q ∧ iv = .int .i64 (p : Int) ∧ Hid (RowA wr (w.heap.size + 1) (upA LL M t v acc q q)) ∧ Hid (BoxF wr w.heap.size 0 0) ∧ Hid (Ty wr m w0 base vr vd vp ps M rs ds L S (n + q + p)) ∧ Hid (Keeps (fun j => j = m) w wr) ∧ Hid (∀ j, j < p → On LL ((ad LL M t v acc j).1 : Int))) (fun iv _ => q - (intOf iv).toNat)
        case atStart => exact ⟨0, Nat.zero_le _, rfl, HR, HXr, HMr, HKr, fun j hj => absurd hj (Nat.not_lt_zero _)⟩
        case round =>
          clear HR HXr HMr HKr
          obtain ⟨p, hp, rfl, HR, HXr, HMr, HKr, HO⟩ := hrel
          by_cases hlt : p < q
          · have y0 := HR.out.cell p (by rw [upA_len]; exact hlt)
            rw [upA_get _ _ _ _ _ _ _ hlt] at y0
            have HCl := Lib.hid (HPk.out wr p hlt (ad LL M t v acc p).1 (HAd.out p) HMr.out)
            have HOff : Hid (¬ On LL ((ad LL M t v acc p).1 : Int) → reachF LL M t v acc q = some (30, vv v p)) := fun h => reach_off HZ.out HO.out h hlt
            have HGo : Hid (On LL ((ad LL M t v acc p).1 : Int) → ∀ j, j < p + 1 → On LL ((ad LL M t v acc j).1 : Int)) := fun h j hj => by
              by_cases e : j = p
              · rw [e]; exact h
              · exact HO.out j (by omega)
            generalize (ad LL M t v acc p).1 = r1 at *
            have qi : (p : Int) < (q : Int) := by omega
            go_wp2_with fail
            refine HCl.out.mono ?_
            rintro e w3 ⟨x, b, z, rfl, HBo, HM3, HK3⟩
            have hm1 : m < w.heap.size := hml
            have HX3 : Hid (BoxF w3 w.heap.size 0 0) := HXr.out.keeps HK3.out (by omega)
            have HR3 : Hid (RowA w3 (w.heap.size + 1) (upA LL M t v acc q q)) := HR.out.keeps HK3.out (by omega)
            have HKw3 : Hid (Keeps (fun j => j = m) w w3) := HKr.out.trans HK3.out (fun _ _ e => e)
            have hlt3 := HR3.out.lt
            clear HCl HK3 y0
            unfold FaultV
            cases b with
            | false =>
              have hon : On LL (r1 : Int) := by
                by_cases h : On LL (r1 : Int)
                · exact h
                · have := HBo.out.2 h; cases this
              have HGo2 := Lib.hid (HGo.out hon)
              simp only [Bool.false_eq_true, if_false]
              have HB4 : Hid (Below w3.heap.size w3 (w3.alloc (Obj.cells #[.int .i64 0, .int .u64 x] 57))) := (Below.refl _ _).alloc (Nat.le_refl _) _
              clear hon HGo HOff HBo
              go_wp2_with fail
              go_roundw
              case rel => exact ⟨p + 1, by omega, by go_num, HR3.out.below HB4.out, HX3.out.below HB4.out, HM3.out.below HB4.out, HKw3.out.trans (Keeps.of_below (S := fun _ => False) HB4.out) (fun _ _ h => h.elim), HGo2⟩
              case measure => simp [intOf]; omega
            | true =>
              have HRc := HOff.out (HBo.out.1 rfl)
              simp only [if_true]
              have HB4 : Hid (Below w3.heap.size w3 (w3.alloc (Obj.cells #[.int .i64 30, .int .u64 x] 57))) := (Below.refl _ _).alloc (Nat.le_refl _) _
              have HSt := Lib.hid (stray_any (v := v) (i := p) (w3.alloc (Obj.cells #[.int .i64 30, .int .u64 x] 57)) (by omega))
              clear HGo HOff HBo
              go_wp2_with fail
              refine HSt.out.mono ?_
              rintro e w5 ⟨rfl, hb5⟩
              have HB5 : Hid (Below w3.heap.size w3 w5) := HB4.out.trans (hb5.mono HB4.out.size)
              have HX5 : Hid (BoxF w5 w.heap.size 0 0) := HX3.out.below HB5.out
              obtain ⟨x0, x1, f0, f1⟩ := HX5.out.cells
              clear hb5 HSt
              unfold FaultV
              generalize vv v p = y at *
              go_wp2_with fail
              obtain ⟨d0, d1, _⟩ := (HX5.out.set 30 y).cells
              refine bodyPost_ret (v := .tuple #[.slice none 0 0, .agg #[.int .i64 30, .int .u64 (y : Int)]]) (by simp [results, Tryz.results49, go_sem, d0, d1]) rfl ?_
              have hk2 := Keeps.two w5 w.heap.size (.int .i64 30) (.int .u64 (y : Int))
              exact ⟨.inl ⟨30, y, HRc, rfl⟩, ((HM3.out.mono (by omega)).below HB5.out).keeps hk2 (fun j hj e => by have := HM.out.mine_lt hj; omega), (HKw3.out.trans (Keeps.of_below (S := fun _ => False) HB5.out) (fun _ _ h => h.elim)).trans hk2 (fun i hi e => absurd e (by omega))⟩
          · obtain rfl : p = q := by omega
            have HOk : Hid (reachF LL M t v acc p = none) := reach_ok HZ.out HO.out
            obtain ⟨x0, x1, f0, f1⟩ := HXr.out.cells
            go_wp2_with fail
            obtain ⟨d0, d1, _⟩ := (HXr.out.set 0 0).cells
            refine bodyPost_ret (v := .tuple #[.slice (some ⟨w.heap.size + 1, 0, none⟩) p p, .agg #[.int .i64 0, .int .u64 0]]) (by simp [results, Tryz.results49, go_sem, d0, d1]) rfl ?_
            have hk2 := Keeps.two wr w.heap.size (.int .i64 0) (.int .u64 0)
            exact ⟨.inr ⟨HOk.out, fun j hj => ⟨HZ.out j hj, HO.out j hj⟩, w.heap.size + 1, rfl, by omega, HR.out.keeps hk2 (by omega)⟩, (HMr.out.mono (by omega)).keeps hk2 (fun j hj e => by have := HM.out.mine_lt hj; omega), HKr.out.trans hk2 (fun i hi e => absurd e (by omega))⟩
end Go.Proofs.YtdkhhofgfbnmkaaGreat
/- take over the tape. Own work. -/
namespace Go.Proofs.YtdkhhofgfbnmkaaGreat
open Go.RowKit Go.Maps Go.Proofs.YtdkhhofgfbnmkaaGreat.Sp Wk
/-- how many bytes are loaded -/
noncomputable def tkC (LL : List Sp) (M : Nat → Nat) (t v : Nat) (acc : Int) (k : Nat) : Nat := match reachF LL M t v acc k with | some _ => 0 | none => k
set_option maxRecDepth 100000 in
set_option maxHeartbeats 8000000 in
theorem take_t {w : World} {w0 : World} {m base : Nat} {vr vd vp : Value} {ps : List (Int × Nat)} {M : Nat → Nat} {rs ds : List Sp} {L S n t v k : Nat} {acc : Int} (h : Ty w m w0 base vr vd vp ps M rs ds L S n) (hL : L ≤ 4611686018427380000) (ht : t ≤ 18446744073709551615) (hn : n ≤ 4611686018427370000) (hk : Wide k) :
    Calls Tryz.prog 35 #[MemT m, .int .u64 (t : Int), .int .u64 (v : Int), .int .i64 (k : Int), .int .i64 acc] w fun e w' => e = .returned (.tuple #[.int .u64 ((takeV (rs ++ ds) M t v acc k).1 : Int), FaultV (takeV (rs ++ ds) M t v acc k).2.1 ((takeV (rs ++ ds) M t v acc k).2.2 : Int)]) ∧ Hid (Ty w' m w0 base vr vd vp ps M rs ds (L + tkC (rs ++ ds) M t v acc k) S (n + 32)) ∧ Hid (Keeps (fun j => j = m) w w') := by
  have HM : Hid (Ty w m w0 base vr vd vp ps M rs ds L S n) := h
  have hml := h.lt
  have k8 : k ≤ 8 := by rcases hk with h | h | h | h <;> omega
  have HSm : Hid (∀ p, M p < 256) := h.small
  have HRe : Hid (Calls Tryz.prog 49 #[MemT m, .int .u64 (t : Int), .int .u64 (v : Int), .int .i64 (k : Int), .int .i64 acc] (w.alloc (Obj.cells #[.int .i64 0, .int .u64 0] 57)) fun e w' => ReachP (w.alloc (Obj.cells #[.int .i64 0, .int .u64 0] 57)) (rs ++ ds) M t v acc k e w' ∧ Hid (Ty w' m w0 base vr vd vp ps M rs ds L S (n + 16)) ∧ Hid (Keeps (fun j => j = m) (w.alloc (Obj.cells #[.int .i64 0, .int .u64 0] 57)) w')) := reached_t (h.below ((Below.refl _ _).alloc (Nat.le_refl _) _)) ht (by omega) hk
  have HLd : Hid (∀ W i, i < k → ∀ a : Nat, a ≤ 18446744073709551615 → On (rs ++ ds) (a : Int) → Ty W m w0 base vr vd vp ps M rs ds (L + i) S (n + 16 + i) → Calls Tryz.prog 141 #[.agg #[.pointer (some ⟨m, 0, none⟩)], .int .u64 (a : Int), .int .i64 1] W fun e w' => e = .returned (.tuple #[.int .u64 ((M a : Nat) : Int), FaultV 0 0]) ∧ Hid (Ty w' m w0 base vr vd vp ps M rs ds (L + (i + 1)) S (n + 16 + i + 1)) ∧ Hid (Keeps (fun j => j = m) W w')) := fun W i hi a ha hon ⟨X, h3, h4⟩ => by
    refine (tload_any (k := 1) h4 ha (Or.inl rfl) (by omega) (by omega)).mono ?_
    rintro e w' ⟨x, b, ho, rfl, hm, hk⟩
    cases b with
    | true =>
      obtain ⟨i, hi, _, _, hn, _⟩ := ho.1 rfl
      obtain rfl : i = 0 := by omega
      exact absurd (by simpa using hon) hn
    | false =>
      have hx := (ho.2 rfl).1
      subst hx
      rw [num_one]
      exact ⟨rfl, ⟨X, by omega, hm⟩, hk⟩
  have HAd : Hid (∀ i, (ad (rs ++ ds) M t v acc i).1 ≤ 18446744073709551615) := fun i => adrF_le _ _ _ _ _
  have hme : ∀ (w : World) (p : Value), (method 319 46 (.agg #[p]) "Load").run Tryz.prog w = .ok (141, .agg #[p]) w := fun _ _ => by kernel_rfl
  generalize rs ++ ds = LL at *
  have HX0 : Hid (BoxF (w.alloc (Obj.cells #[.int .i64 0, .int .u64 0] 57)) w.heap.size 0 0) := BoxF.new w 0 0
  unfold MemT at HRe ⊢
  clear hk h
  go_enter Tryz.func35, Tryz.ntmps35
  go_wp2_with fail
  refine HRe.out.mono ?_
  rintro e w1 ⟨hP, HM1, HK1⟩
  have HX1 : Hid (BoxF w1 w.heap.size 0 0) := HX0.out.keeps HK1.out (by omega)
  have HKw1 : Hid (Keeps (fun j => j = m) w w1) := (Keeps.alloc (S := fun j => j = m) w _).trans HK1.out (fun _ _ e => e)
  have hlt1 := HX1.out.lt
  clear HRe HX0 HK1
  rcases hP with ⟨why, x, hre, rfl⟩ | ⟨hre, hall, g, rfl, hg, hrow⟩
  · have HV : Hid (takeV LL M t v acc k = (0, why, x)) := by show _ = _; rw [takeV, hre]
    have HC : Hid (tkC LL M t v acc k = 0) := by show _ = _; rw [tkC, hre]
    have h0 := reach_why hre
    have h0e : (why == 0) = false := by simpa using h0
    obtain ⟨W3, hW3⟩ : ∃ W3, w1.alloc (Obj.cells #[.int .i64 why, .int .u64 (x : Int)] 57) = W3 := ⟨_, rfl⟩
    have HF3 : Hid (BoxF W3 w1.heap.size why x) := hW3 ▸ BoxF.new w1 why x
    have HX3 : Hid (BoxF W3 w.heap.size 0 0) := hW3 ▸ HX1.out.below ((Below.refl _ _).alloc (Nat.le_refl _) _)
    have HB3 : Hid (Below w1.heap.size w1 W3) := hW3 ▸ (Below.refl _ _).alloc (Nat.le_refl _) _
    have hne : w.heap.size ≠ w1.heap.size := by omega
    obtain ⟨x0, x1, f0, f1⟩ := HX3.out.cells
    obtain ⟨y0, y1, _, _⟩ := HF3.out.cells
    unfold FaultV
    clear hre
    go_wp2_with fail
    clear hW3
    go_region_held3 (fun w' => w'.cell? ⟨w1.heap.size, 0, none⟩ = some (.int .i64 why) ∧ w'.cell? ⟨w1.heap.size, 1, none⟩ = some (.int .u64 (x : Int))) (go_keep) (fail)
    go_wp2_with fail
    obtain ⟨d0, d1, _⟩ := BoxF.cells (w := ((W3.setCell ⟨w.heap.size, 0, none⟩ (.int .i64 why)).setCell ⟨w.heap.size, 1, none⟩ (.int .u64 (x : Int))).drew) (HX3.out.set why x)
    refine bodyPost_ret (v := .tuple #[.int .u64 0, .agg #[.int .i64 why, .int .u64 (x : Int)]]) (by simp [results, Tryz.results35, go_sem, d0, d1]) rfl ?_
    have hk2 : Keeps (fun j => j = w.heap.size) W3 (((W3.setCell ⟨w.heap.size, 0, none⟩ (.int .i64 why)).setCell ⟨w.heap.size, 1, none⟩ (.int .u64 (x : Int))).drew) := (Keeps.two W3 w.heap.size (.int .i64 why) (.int .u64 (x : Int))).drew
    exact ⟨by rw [HV.out]; rfl, HC.out.symm ▸ ((HM1.out.mono (by omega)).below HB3.out).keeps hk2 (fun j hj e => by have := HM.out.mine_lt hj; omega), (HKw1.out.trans (Keeps.of_below (S := fun _ => False) HB3.out) (fun _ _ h => h.elim)).trans hk2 (fun i hi e => absurd e (by omega))⟩
  · have HV : Hid (takeV LL M t v acc k = (takeN LL M t v acc k, 0, 0)) := by show _ = _; rw [takeV, hre]
    have HC : Hid (tkC LL M t v acc k = k) := by show _ = _; rw [tkC, hre]
    have HAll : Hid (∀ j, j < k → (ad LL M t v acc j).2 = 0 ∧ On LL ((ad LL M t v acc j).1 : Int)) := hall
    have HRw : Hid (RowA w1 g (upA LL M t v acc k k)) := hrow
    have hgl : w.heap.size < g ∧ g < w1.heap.size := ⟨by simp at hg; omega, hrow.lt⟩
    obtain ⟨hg1, hg2⟩ := hgl
    clear hre hall hrow hg
    unfold FaultV
    go_wp2_with fail
    obtain ⟨W2, hW2⟩ : ∃ W2, (w1.alloc (Obj.cells #[.int .i64 0, .int .u64 0] 57)).alloc (Obj.cells #[.int .u8 0, .int .u8 0, .int .u8 0, .int .u8 0, .int .u8 0, .int .u8 0, .int .u8 0, .int .u8 0] 129) = W2 := ⟨_, rfl⟩
    have HB2 : Hid (Below w1.heap.size w1 W2) := hW2 ▸ ((Below.refl _ _).alloc (Nat.le_refl _) _).alloc (by simp) _
    have HR2 : Hid (RowT W2 129 (w1.heap.size + 1) (upB LL M t v acc 0)) := by rw [← hW2, upB_zero]; exact heap_alloc_new' (by simp) _
    rw [hW2]
    have s8 := slice8_all
    have HX2 : Hid (BoxF W2 w.heap.size 0 0) := HX1.out.below HB2.out
    have HRw2 : Hid (RowA W2 g (upA LL M t v acc k k)) := HRw.out.below HB2.out
    have HM2 : Hid (Ty W2 m w0 base vr vd vp ps M rs ds (L + 0) S (n + 16)) := HM1.out.below HB2.out
    have HKw2 : Hid (Keeps (fun j => j = m) w W2) := HKw1.out.trans (Keeps.of_below (S := fun _ => False) HB2.out) (fun _ _ h => h.elim)
    clear hW2 HX1 HRw HM1 HKw1
    generalize hgb : w1.heap.size + 1 = gb at *
    have hgb2 : g < gb := by omega
    clear hgb
    go_loopw [36] (fun iv wr => ∃ q : Nat, q ≤ k ∧ iv = .int .i64 (q : Int) ∧ Hid (RowA wr g (upA LL M t v acc k k)) ∧ Hid (RowT wr 129 gb (upB LL M t v acc q)) ∧ Hid (BoxF wr w.heap.size 0 0) ∧ Hid (Ty wr m w0 base vr vd vp ps M rs ds (L + q) S (n + 16 + q)) ∧ Hid (Keeps (fun j => j = m) w wr)) (fun iv _ => k - (intOf iv).toNat)
    case atStart => exact ⟨0, Nat.zero_le _, rfl, HRw2, HR2, HX2, HM2, HKw2⟩
    case round =>
      clear HRw2 HR2 HX2 HM2 HKw2
      obtain ⟨q, hq, rfl, HRw, HR, HXr, HMr, HKr⟩ := hrel
      by_cases hlt : q < k
      · have y0 := HRw.out.cell q (by rw [upA_len]; exact hlt)
        rw [upA_get _ _ _ _ _ _ _ hlt] at y0
        have HCl := Lib.hid (HLd.out wr q hlt (ad LL M t v acc q).1 (HAd.out q) (HAll.out q hlt).2 HMr.out)
        have HUp : Hid ((upB LL M t v acc q).set q (M (ad LL M t v acc q).1) = upB LL M t v acc (q + 1)) := upB_step _ _ _ _ _ _
        have hsm := HSm.out (ad LL M t v acc q).1
        generalize (ad LL M t v acc q).1 = r1 at *
        generalize M r1 = z at *
        have qi : (q : Int) < (k : Int) := by omega
        have q8 : (q : Int) < 8 := by omega
        have q8n : q < 8 := by omega
        have hz8 : IntKind.u8.wrap (z : Int) = (z : Int) := by rw [IntKind.wrap_u8]; omega
        go_wp2_with fail
        refine HCl.out.mono ?_
        rintro e w3 ⟨rfl, HM3, HK3⟩
        have hm1 : m < w.heap.size := hml
        have HX3 : Hid (BoxF w3 w.heap.size 0 0) := HXr.out.keeps HK3.out (by omega)
        have HR3 : Hid (RowT w3 129 gb (upB LL M t v acc q)) := rowT_keeps HR.out HK3.out (by omega)
        have HRw3 : Hid (RowA w3 g (upA LL M t v acc k k)) := HRw.out.keeps HK3.out (by omega)
        have HKw3 : Hid (Keeps (fun j => j = m) w w3) := HKr.out.trans HK3.out (fun _ _ e => e)
        have hlt3 := rowT_lt HR3.out
        obtain ⟨c0, hc0⟩ : ∃ c0, (upB LL M t v acc q)[q]'(by rw [upB_len]; exact q8n) = c0 := ⟨_, rfl⟩
        have u0 := rowT_cell (rowT_below HR3.out ((Below.refl _ _).alloc (Nat.le_refl _) (Obj.cells #[.int .i64 0, .int .u64 0] 57))) q (by rw [upB_len]; exact q8n)
        have u1 := rowT_thawed (rowT_below HR3.out ((Below.refl _ _).alloc (Nat.le_refl _) (Obj.cells #[.int .i64 0, .int .u64 0] 57))) q
        rw [hc0] at u0
        clear HCl HK3 y0 hc0
        unfold FaultV
        go_wp2_with fail
        go_roundw
        case rel =>
          have hk3 : Keeps (fun j => j = gb) w3 (w3.setCell ⟨gb, q, none⟩ (.int .u8 ((z : Nat) : Int))) := Keeps.setCell _ _ _ _
          have hb4 : Below (w3.setCell ⟨gb, q, none⟩ (.int .u8 ((z : Nat) : Int))).heap.size (w3.setCell ⟨gb, q, none⟩ (.int .u8 ((z : Nat) : Int))) ((w3.setCell ⟨gb, q, none⟩ (.int .u8 ((z : Nat) : Int))).alloc (Obj.cells #[.int .i64 0, .int .u64 0] 57)) := (Below.refl _ _).alloc (Nat.le_refl _) _
          have t1 := (HX3.out.keeps hk3 (show ¬ (w.heap.size = gb) by omega)).below hb4
          have t2 := (HKw3.out.trans hk3 (fun i hi e => absurd (show i = gb from e) (by omega))).trans (Keeps.of_below (S := fun _ => False) hb4) (fun _ _ h => h.elim)
          have t3 := (HRw3.out.keeps hk3 (show ¬ (g = gb) by omega)).below hb4
          have t4 := rowT_below (rowT_set HR3.out q z) hb4
          rw [HUp.out] at t4
          exact ⟨q + 1, by omega, by go_num, t3, t4, t1, (HM3.out.keeps hk3 (fun j hj e => by have := HM.out.mine_lt hj; have e : j = gb := e; omega)).below hb4, t2⟩
        case measure => simp [intOf]; omega
      · obtain rfl : q = k := by omega
        have HGt := Lib.hid (get_u64_yes (rowT_sl HR.out (upB_len _ _ _ _ _ _) (upB_small HSm.out _ _ _ _)) (Nat.le_of_eq (upB_len _ _ _ _ _ _).symm))
        have HNm : Hid (Pl.num 8 (upB LL M t v acc q) = takeN LL M t v acc q) := rfl
        rw [HNm.out] at HGt
        generalize takeN LL M t v acc q = N at *
        obtain ⟨x0, x1, f0, f1⟩ := HXr.out.cells
        go_wp2_with (first | (go_at_call 58; refine HGt.out.mono ?_; rintro e w' ⟨rfl, hw⟩; have hw := hw.symm; subst hw))
        obtain ⟨d0, d1, _⟩ := (HXr.out.set 0 0).cells
        refine bodyPost_ret (v := .tuple #[.int .u64 (N : Int), .agg #[.int .i64 0, .int .u64 0]]) (by simp [results, Tryz.results35, go_sem, d0, d1]) rfl ?_
        have hk2 := Keeps.two wr w.heap.size (.int .i64 0) (.int .u64 0)
        exact ⟨by rw [HV.out]; rfl, HC.out.symm ▸ (HMr.out.mono (by omega)).keeps hk2 (fun j hj e => by have := HM.out.mine_lt hj; omega), HKr.out.trans hk2 (fun i hi e => absurd e (by omega))⟩
end Go.Proofs.YtdkhhofgfbnmkaaGreat
/- The document's own Store through tables, block by block. Own work. -/
namespace Go.Proofs.YtdkhhofgfbnmkaaGreat
open Go.RowKit Go.Maps Go.Proofs.YtdkhhofgfbnmkaaGreat.Sp Wk Lv
/-- the pages that are touched by a store through tables -/
noncomputable def stN (LL : List Sp) (M : Nat → Nat) (t vi : Nat) (l : List Int) : Nat → List Int
  | 0 => l
  | i + 1 => addN (stN LL M t vi l i) (ad LL M t vi 2 i).1 1
/-- what holds while the bytes are stored -/
structure SIf (vp0 : Value) (ps0 : List (Int × Nat)) (NN : List Int) (w0 w : World) (base v gf gr : Nat) (vr vd : Value) (M : Nat → Nat) (L S X : Nat) (k a : Int) (vl : Value) (b0 : Nat) (xs : List Nat) (W : World) : Prop where
  below : Below w0.heap.size w0 W
  mac : ∃ vp ps, RM W base v vr vd vp ps M L S X ∧ Kf v vp0 ps0 w vp ps W ∧ ps.map Prod.fst = NN
  zero : BoxG W gf 0 0
  fault : BoxG W gr k a
  row : OwnA W b0 vl xs
theorem SIf.step {vp0 vp vp' : Value} {ps0 ps ps' : List (Int × Nat)} {NN : List Int} {w0 w : World} {base v gf gr : Nat} {vr vd : Value} {M M' : Nat → Nat} {L S X S' : Nat} {k a : Int} {vl : Value} {b0 : Nat} {xs : List Nat} {W W' : World} {N0 : List Int} (h : SIf vp0 ps0 N0 w0 w base v gf gr vr vd M L S X k a vl b0 xs W) (hb : w0.heap.size ≤ base) (hr : RM W base v vr vd vp ps M L S X) (hk0 : Kf v vp0 ps0 w vp ps W) (hk : Kf v vp ps W vp' ps' W') (hm : RM W' base v vr vd vp' ps' M' L S' X) (hn : ps'.map Prod.fst = NN) : SIf vp0 ps0 NN w0 w base v gf gr vr vd M' L S' X k a vl b0 xs W' :=
  ⟨below_keeps h.below hk.keeps (fun _ e => Nat.le_trans hb (hr.fo e).1), ⟨_, _, hm, hk0.trans hk, hn⟩, h.zero.keeps hk.keeps (fun e => boxG_notVB h.zero _ (hr.fo e) rfl), h.fault.keeps hk.keeps (fun e => boxG_notVB h.fault _ (hr.fo e) rfl), h.row.keeps hk.keeps (fun _ e e' => ownA_notVB h.row _ (hr.fo e') e)⟩
/-- what the document's Store answers -/
def StPf (vp0 : Value) (ps0 : List (Int × Nat)) (w : World) (base v : Nat) (vr vd : Value) (M : Nat → Nat) (LL : List Sp) (L S X t vi val k : Nat) (e : Ending) (w' : World) : Prop :=
  ((∃ why x, reachF LL M t vi 2 k = some (why, x) ∧ e = .returned (.agg #[.int .i64 why, .int .u64 (x : Int)]) ∧ ∃ vp ps, RM w' base v vr vd vp ps M L S X ∧ Kf v vp0 ps0 w vp ps w' ∧ ps.map Prod.fst = ps0.map Prod.fst) ∨ (reachF LL M t vi 2 k = none ∧ e = .returned (.agg #[.int .i64 0, .int .u64 0]) ∧ ∃ vp ps, RM w' base v vr vd vp ps (stM LL M t vi val k) L (S + k) X ∧ Kf v vp0 ps0 w vp ps w' ∧ ps.map Prod.fst = stN LL M t vi (ps0.map Prod.fst) k))
set_option maxRecDepth 100000 in
set_option maxHeartbeats 4000000 in
theorem rst_f {w0 w : World} {base v : Nat} {vr vd vp : Value} {ps : List (Int × Nat)} {M : Nat → Nat} {L S X : Nat} {rs ds : List Sp} {t vi val k : Nat} (h : RM w base v vr vd vp ps M L S X) (hb0 : Below w0.heap.size w0 w) (hbs : w0.heap.size ≤ base) (hbw : base ≤ w.heap.size) (hv0 : w0.heap.size ≤ v) (hvs : v < w.heap.size) (hr : U64.SV w0 vr rs) (hd : U64.SV w0 vd ds) (hs : Sane (rs ++ ds)) (hll : rs.length + ds.length ≤ 64) (hX : X ≤ 4611686018427387904) (hS : S ≤ 4611686018427387000) (ht : t ≤ 18446744073709551615) (hval : val ≤ 18446744073709551615) (hk : Wide k) :
    Calls Tryz.prog 25 #[.pointer (some ⟨v, 0, none⟩), .int .u64 (t : Int), .int .u64 (vi : Int), .int .i64 (k : Int), .int .u64 (val : Int)] w (StPf vp ps w base v vr vd M (rs ++ ds) L S X t vi val k) := by
  obtain ⟨W1, hW1⟩ : ∃ W1, w.alloc (Obj.cells #[.int .i64 0, .int .u64 0] 41) = W1 := ⟨_, rfl⟩
  have HB1 : Hid (Below w.heap.size w W1) := hW1 ▸ (Below.refl _ w).alloc (Nat.le_refl _) _
  have HG1 : Hid (BoxG W1 w.heap.size 0 0) := hW1 ▸ BoxG.new w 0 0
  have hs1 : W1.heap.size = w.heap.size + 1 := by rw [← hW1]; simp
  have HBs := Lib.hid (rbytes_of (w0 := w0) (rs := rs) (ds := ds) (t := t) (vi := vi) (k := k) (acc := 2) (h.below HB1.out) (hb0.trans (HB1.out.mono hb0.size)) hv0 (by omega) hr hd hs hll hX ht hk)
  have HSt : Hid (∀ W gf gr (c a : Int) vl b0 xs (q p z : Nat) M' NN, q ≤ 4611686018427387904 → p ≤ 18446744073709551615 → On (rs ++ ds) (p : Int) → base ≤ W.heap.size → SIf vp ps NN w0 w base v gf gr vr vd M' L q X c a vl b0 xs W → Calls Tryz.prog 11 #[.pointer (some ⟨v, 0, none⟩), .int .u64 (p : Int), .int .i64 1, .int .u64 (z : Int)] W fun e w' => (∃ y, e = .returned y) ∧ SIf vp ps (addN NN p 1) w0 w base v gf gr vr vd (putAt M' p ((Pl.le 8 z).take 1)) L (q + 1) X c a vl b0 xs w') := fun W gf gr c a vl b0 xs q p z M' NN hq hp ho hbW hI => by
    obtain ⟨vp', ps', hm', hkf, hnn⟩ := hI.mac
    refine (rstore_f (n := 1) hm' (.inl rfl) hbW (hr.below hI.below (Nat.le_refl _)) (hd.below hI.below (Nat.le_refl _)) hs hll hp hX hq).mono ?_
    rintro e w' ⟨x, b, hof, rfl, _, hb2⟩
    cases b with
    | true =>
      obtain ⟨i, hi, _, _, hn, _⟩ := hof.1 rfl
      obtain rfl : i = 0 := by omega
      exact absurd (by simpa using ho) hn
    | false =>
      obtain ⟨vp2, ps2, hm2, hk2, hn2⟩ := hb2 rfl
      exact ⟨⟨_, rfl⟩, hI.step hbs hm' hkf hk2 hm2 (by rw [hn2, hnn])⟩
  have HW0 := Lib.hid hb0
  have hk1 : k ≤ 8 ∧ 1 ≤ k := by rcases hk with rfl | rfl | rfl | rfl <;> omega
  clear h hr hd hs hll hX hb0 hk
  generalize rs ++ ds = LL at *
  go_enter Tryz.func25, Tryz.ntmps25
  go_wp2_with fail
  refine HBs.out.mono ?_
  rintro e w2 ⟨hm2, hk2, hc⟩
  have HMk : Hid (∀ (K A : Int) vl xs, OwnA w2 (W1.heap.size + 1) vl xs → SIf vp ps (ps.map Prod.fst) w0 w base v w.heap.size w2.heap.size vr vd M L S X K A vl (W1.heap.size + 1) xs (w2.alloc (Obj.cells #[.int .i64 K, .int .u64 A] 41))) := fun K A vl xs ho => by
    have hb : Below w2.heap.size w2 (w2.alloc (Obj.cells #[.int .i64 K, .int .u64 A] 41)) := (Below.refl _ _).alloc (Nat.le_refl _) _
    have hb1 : Below w0.heap.size w0 w2 := below_keeps (HW0.out.trans (HB1.out.mono HW0.out.size)) hk2 (fun j e => by rw [e]; exact hv0)
    have hkk : Keeps (fun j => j = v) w (w2.alloc (Obj.cells #[.int .i64 K, .int .u64 A] 41)) := ((Keeps.of_below (S := fun j => j = v) HB1.out).trans hk2 (fun _ _ e => e)).trans (Keeps.of_below (S := fun _ => False) hb) (fun _ _ e => e.elim)
    exact ⟨hb1.trans (hb.mono hb1.size), ⟨_, _, hm2.below hb, Kf.one hkk, rfl⟩, (HG1.out.keeps hk2 (by omega)).below hb, BoxG.new w2 K A, ho.below hb⟩
  have hz2 : w.heap.size + 1 ≤ w2.heap.size := by rw [← hs1]; exact hk2.size
  have HS1 := Lib.hid hs1
  have HEnd : Hid (∀ q M' (K A : Int) vl xs NN W, SIf vp ps NN w0 w base v w.heap.size w2.heap.size vr vd M' L q X K A vl (W1.heap.size + 1) xs W → ∃ vp' ps', RM ((W.setCell ⟨w.heap.size, 0, none⟩ (.int .i64 K)).setCell ⟨w.heap.size, 1, none⟩ (.int .u64 A)) base v vr vd vp' ps' M' L q X ∧ Kf v vp ps w vp' ps' ((W.setCell ⟨w.heap.size, 0, none⟩ (.int .i64 K)).setCell ⟨w.heap.size, 1, none⟩ (.int .u64 A)) ∧ ps'.map Prod.fst = NN) := fun q M' K A vl xs NN W hI => by
    have hk := Keeps.two W w.heap.size (.int .i64 K) (.int .u64 A)
    obtain ⟨vp', ps', hm', hkf, hnn⟩ := hI.mac
    exact ⟨vp', ps', hm'.keeps hk (boxG_notVB hI.zero), hkf.after hk (fun j hj e => by omega), hnn⟩
  rcases hc with ⟨why, x, hre, rfl⟩ | ⟨hre, hall, vl, rfl, hown⟩
  · have HRe := Lib.hid hre
    have HI3 := Lib.hid (HMk.out why (x : Int) (.slice none 0 0) [] (OwnA.nil _ _))
    clear hm2 hk2 hre HMk HBs HSt hW1 HB1 HG1 hs1
    go_upto_region 2 with fail
    obtain ⟨W3, hW3⟩ : ∃ W3, w2.alloc (Obj.cells #[.int .i64 why, .int .u64 (x : Int)] 41) = W3 := ⟨_, rfl⟩
    rw [hW3] at HI3 ⊢
    clear hW3
    obtain ⟨g0, g1, _, _⟩ := HI3.out.fault.cells
    obtain ⟨q0, q1, q2, q3⟩ := HI3.out.zero.cells
    obtain ⟨s0, s1, _, _⟩ := (HI3.out.zero.set why (x : Int)).cells
    have HF := Lib.hid (HEnd.out _ _ why (x : Int) _ _ _ _ HI3.out)
    clear HI3 HEnd
    go_wp2_with fail
    refine wp_loop_rounds 1 ?_
    rw [rounds_succ]
    go_wp2_with fail
    refine bodyPost_ret (v := .agg #[.int .i64 why, .int .u64 (x : Int)]) (by simp [results, Tryz.results25, go_sem, s0, s1]) rfl ?_
    exact .inl ⟨why, x, HRe.out, rfl, HF.out⟩
  · have HRe := Lib.hid hre
    have HAl := Lib.hid hall
    have HI3 := Lib.hid (HMk.out 0 0 vl (adL LL M t vi 2 k) hown)
    obtain ⟨al, cl, rfl, hc1, hc2⟩ := hown.form
    rw [adL_len] at hc1 HI3 ⊢
    unfold maxLen at hc2
    clear hm2 hk2 hre hall hown HMk HBs hW1 HB1 HG1 hs1
    go_upto_region 2 with fail
    obtain ⟨W3, hW3⟩ : ∃ W3, w2.alloc (Obj.cells #[.int .i64 0, .int .u64 0] 41) = W3 := ⟨_, rfl⟩
    rw [hW3] at HI3 ⊢
    clear hW3
    go_wp2_with fail
    go_loopw [13] (fun iv wr => ∃ i : Nat, iv = .int .i64 (i : Int) ∧ i ≤ k ∧ Hid (SIf vp ps (stN LL M t vi (ps.map Prod.fst) i) w0 w base v w.heap.size w2.heap.size vr vd (stM LL M t vi val i) L (S + i) X 0 0 (.slice al k cl) (W1.heap.size + 1) (adL LL M t vi 2 k) wr)) (fun iv _ => k - (intOf iv).toNat)
    case atStart => exact ⟨0, rfl, Nat.zero_le _, HI3⟩
    case round =>
      obtain ⟨i, rfl, hi, HI4⟩ := hrel
      clear HI3
      by_cases hlt : i < k
      · have qi : (i : Int) < (k : Int) := by omega
        obtain ⟨g, hal, hc⟩ := HI4.out.row.cell i (by rw [adL_len]; exact hlt)
        subst hal
        obtain ⟨P, hP⟩ : ∃ P, P = (ad LL M t vi 2 i).1 := ⟨_, rfl⟩
        have hc3 : wr.cell? ⟨g, i, none⟩ = some (.int .u64 (P : Int)) := by
          rw [hc, hP]
          simp [adL]
        have hP2 : P ≤ 18446744073709551615 := by rw [hP]; exact adrF_le _ _ _ _ _
        have hbW : base ≤ wr.heap.size := by
          obtain ⟨_, _, _, hkf, _⟩ := HI4.out.mac
          exact Nat.le_trans hbw hkf.keeps.size
        have HO1 : Hid (∀ q : Int, q = ((val / 2 ^ (8 * i) % 256 : Nat) : Int) → Calls Tryz.prog 11 #[.pointer (some ⟨v, 0, none⟩), .int .u64 (P : Int), .int .i64 1, .int .u64 q] wr fun e w' => (∃ y, e = .returned y) ∧ SIf vp ps (stN LL M t vi (ps.map Prod.fst) (i + 1)) w0 w base v w.heap.size w2.heap.size vr vd (stM LL M t vi val (i + 1)) L (S + (i + 1)) X 0 0 (.slice (some ⟨g, 0, none⟩) k cl) (W1.heap.size + 1) (adL LL M t vi 2 k) w') := fun q hq => by
          have := HSt.out wr _ _ _ _ _ _ _ (S + i) P (val / 2 ^ (8 * i) % 256) _ _ (by omega) hP2 (by rw [hP]; exact (HAl.out i hlt).2) hbW HI4.out
          rw [hq]
          refine this.mono ?_
          rintro e w' ⟨h1, h2⟩
          refine ⟨h1, ?_⟩
          rw [le_take1 (Nat.mod_lt _ (by decide)), hP, ← le_shiftR val i (by omega)] at h2
          exact h2
        clear hc hP HSt HAl HI4
        have hi8 : i < 8 := by omega
        rcases (by omega : i = 0 ∨ i = 1 ∨ i = 2 ∨ i = 3 ∨ i = 4 ∨ i = 5 ∨ i = 6 ∨ i = 7) with rfl | rfl | rfl | rfl | rfl | rfl | rfl | rfl
        all_goals
          go_upto_region 5 with fail
          go_wp2_with fail
          refine (HO1.out _ (by first | rfl | omega)).mono ?_
          rintro e w5 ⟨⟨y, rfl⟩, hI5⟩
          have HI5 := Lib.hid hI5
          clear hI5 HO1 hc3
          go_wp2_with fail
          exact ⟨⟨_, by go_num, by omega, HI5⟩, by simp [intOf]; omega⟩
      · have qi : ¬ (i : Int) < (k : Int) := by omega
        obtain rfl : i = k := by omega
        obtain ⟨g0, g1, _, _⟩ := HI4.out.fault.cells
        obtain ⟨q0, q1, q2, q3⟩ := HI4.out.zero.cells
        obtain ⟨s0, s1, _, _⟩ := (HI4.out.zero.set 0 0).cells
        have HF := Lib.hid (HEnd.out _ _ 0 0 _ _ _ _ HI4.out)
        clear HI4 HEnd HSt HAl
        go_wp2_with fail
        refine bodyPost_ret (v := .agg #[.int .i64 0, .int .u64 0]) (by simp [results, Tryz.results25, go_sem, s0, s1]) rfl ?_
        exact .inr ⟨HRe.out, rfl, HF.out⟩
end Go.Proofs.YtdkhhofgfbnmkaaGreat
