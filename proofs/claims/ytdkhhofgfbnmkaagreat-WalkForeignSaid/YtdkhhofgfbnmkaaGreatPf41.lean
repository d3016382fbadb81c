import Derived.Test.YtdkhhofgfbnmkaaGreatPf40
import Derived.Deep.DeepCutAuto
import Derived.Deep.CutBlock
import Derived.Deep.CutRange
import Derived.Deep.RegionHeld3
/- The document's own Translate, walked. Own work. -/
namespace Go.Proofs.YtdkhhofgfbnmkaaGreat
open Go.RowKit Go.Maps Go.Proofs.YtdkhhofgfbnmkaaGreat.Sp Wk Lv
/-- what holds while Translate goes down -/
structure TI (w0 w : World) (base v gf gx : Nat) (vr vd vp : Value) (ps : List (Int × Nat)) (M : Nat → Nat) (L S X : Nat) (x : Ent) (W : World) : Prop where
  below : Below w0.heap.size w0 W
  keeps : Keeps (fun j => j = v) w W
  mac : RM W base v vr vd vp ps M L S X
  fault : BoxG W gf 0 0
  ent : BoxE W gx x
set_option maxRecDepth 100000 in
set_option maxHeartbeats 4000000 in
theorem rtrans_at {w0 w : World} {base v : Nat} {vr vd vp : Value} {ps : List (Int × Nat)} {M : Nat → Nat} {L S X : Nat} {rs ds : List Sp} {root virt : Nat} {acc : Int} (h : RM w base v vr vd vp ps M L S X) (hb0 : Below w0.heap.size w0 w) (hv0 : w0.heap.size ≤ v) (hvs : v < w.heap.size) (hr : U64.SV w0 vr rs) (hd : U64.SV w0 vd ds) (hs : Sane (rs ++ ds)) (hll : rs.length + ds.length ≤ 64) (hX : X ≤ 4611686018427387904) (hrt : root ≤ 18446744073709551615) (hvt : virt ≤ 18446744073709551615) :
    Calls Tryz.prog 21 #[.pointer (some ⟨v, 0, none⟩), .int .u64 (root : Int), .int .u64 (virt : Int), .int .i64 acc] w fun e w' => e = .returned (.tuple #[.int .u64 ((adrF (rs ++ ds) M root virt acc).1 : Int), .agg #[.int .i64 (adrF (rs ++ ds) M root virt acc).2, .int .u64 (whyAt (adrF (rs ++ ds) M root virt acc).2 virt : Int)]]) ∧ RM w' base v vr vd vp ps M L S X ∧ Keeps (fun j => j = v) w w' := by
  have HPk : Hid (∀ W x (a : Nat), a ≤ 18446744073709551615 → TI w0 w base v w.heap.size (w.heap.size + 1) vr vd vp ps M L S X x W → Calls Tryz.prog 44 #[.pointer (some ⟨v, 0, none⟩), .int .u64 (a : Int)] W fun e w' => ∃ z b, e = .returned (.tuple #[.int .u64 ((z : Nat) : Int), .bool b]) ∧ z < 18446744073709551616 ∧ (b = true → ∀ l : Nat, l ≤ 2 → lookF (rs ++ ds) M a (l : Int) = entB z (l : Int)) ∧ (b = false → ∀ l : Nat, l ≤ 2 → lookF (rs ++ ds) M a (l : Int) = (no, 42)) ∧ TI w0 w base v w.heap.size (w.heap.size + 1) vr vd vp ps M L S X x w') := fun W x a ha hI => by
    refine (rpk_any hI.mac (hr.below hI.below (Nat.le_refl _)) (hd.below hI.below (Nat.le_refl _)) hs hll ha hX).mono ?_
    rintro e w' ⟨y, b, h1, rfl, h3, h4⟩
    have hM := h3.2.2.2.2.2.2.1
    refine ⟨if b then 0 else Pl.num 8 (rdTo M a 8 8), !b, ?_, ?_, ?_, ?_, below_keeps hI.below h4 (fun j e => by rw [e]; exact hv0), hI.keeps.trans h4 (fun _ _ e => e), h3, hI.fault.keeps h4 (by omega), hI.ent.keeps h4 (by omega)⟩
    · cases b <;> rfl
    · cases b
      · exact rd8_lt hM a
      · exact Nat.zero_lt_succ _
    · intro hb l hl
      cases b
      · unfold lookF
        rw [if_pos (h1.2 rfl).2]
        rfl
      · cases hb
    · intro hb l hl
      cases b
      · cases hb
      · obtain ⟨i, hi, _, _, hn, _⟩ := h1.1 rfl
        unfold lookF
        rw [if_neg (fun h => hn (h i hi))]
  obtain ⟨W1, hW1⟩ : ∃ W1, (w.alloc (Obj.cells #[.int .i64 0, .int .u64 0] 41)).alloc (Obj.cells #[.int .u64 (root : Int), .bool true, .bool false, .bool false, .bool false] 104) = W1 := ⟨_, rfl⟩
  have HB1 : Hid (Below w.heap.size w W1) := hW1 ▸ ((Below.refl _ w).alloc (Nat.le_refl _) _).alloc (by simp) _
  have HI1 : Hid (TI w0 w base v w.heap.size (w.heap.size + 1) vr vd vp ps M L S X (root, true, false, false, false) W1) := by
    refine ⟨hb0.trans (HB1.out.mono hb0.size), Keeps.of_below HB1.out, h.below HB1.out, ?_, ?_⟩
    · show W1.heap[w.heap.size]? = _
      rw [← hW1, Below.heap_alloc _ _ _ (by simp)]
      exact heap_alloc_new w _
    · have := heap_alloc_new (w.alloc (Obj.cells #[.int .i64 0, .int .u64 0] 41)) (Obj.cells #[.int .u64 (root : Int), .bool true, .bool false, .bool false, .bool false] 104)
      rw [World.size_alloc, hW1] at this
      exact this
  have HW0 := Lib.hid hb0.size
  clear h hb0 hr hd hs hll hX
  generalize rs ++ ds = LL at *
  have HSt : Hid (∃ k : Int, TrR LL M root virt acc 0 k (root, true, false, false, false) ∧ k = (if acc < 1 ∨ acc > 3 then 1 else if 549755813888 ≤ virt then 40 else if root % 4096 ≠ 0 then 42 else 0)) := by
    refine ⟨_, ?_, rfl⟩
    by_cases h1 : acc < 1 ∨ acc > 3
    · rw [if_pos h1]
      exact .inr (.inr ⟨by decide, by unfold adrF; rw [if_pos (by omega)]⟩)
    · rw [if_neg h1]
      by_cases h2 : 549755813888 ≤ virt
      · rw [if_pos h2]
        exact .inr (.inr ⟨by decide, by unfold adrF; rw [if_neg (by omega), if_pos h2]⟩)
      · rw [if_neg h2]
        by_cases h3 : root % 4096 ≠ 0
        · rw [if_pos h3]
          exact .inr (.inr ⟨by decide, by unfold adrF; rw [if_neg (by omega), if_neg h2, if_pos h3]⟩)
        · rw [if_neg h3]
          exact trr_start LL M (by omega) (by omega) (by omega) hrt
  obtain ⟨k0, HR0, hk0⟩ := HSt.out
  have HR0 := Lib.hid HR0
  have HK0 := Lib.hid hk0
  clear HSt hk0
  go_enter Tryz.func21, Tryz.ntmps21
  go_upto_block 0 with fail
  go_cut [10] (fun y wx => y = .int .i64 k0 ∧ wx = w.alloc (Obj.cells #[.int .i64 0, .int .u64 0] 41))
  case first =>
    have hk := HK0.out
    clear HK0 HR0 HI1 HB1 HPk hW1
    by_cases h1 : acc < 1
    · rw [if_pos (.inl h1)] at hk
      subst hk
      go_wp2_with fail
      go_meet
      exact ⟨rfl, rfl⟩
    · by_cases h1' : acc > 3
      · rw [if_pos (.inr h1')] at hk
        subst hk
        go_wp2_with fail
        go_meet
        exact ⟨rfl, rfl⟩
      · rw [if_neg (by omega)] at hk
        by_cases h2 : 549755813888 ≤ virt
        · rw [if_pos h2] at hk
          subst hk
          have h2i : (549755813888 : Int) ≤ (virt : Int) := by omega
          go_wp2_with fail
          go_meet
          exact ⟨rfl, rfl⟩
        · rw [if_neg h2] at hk
          have h2i : ¬ (549755813888 : Int) ≤ (virt : Int) := by omega
          by_cases h3 : root % 4096 ≠ 0
          · rw [if_pos h3] at hk
            subst hk
            have hi : (root : Int) % 4096 > 0 := by omega
            have hit : (root : Int).tmod 4096 > 0 := by rw [Int.tmod_eq_emod_of_nonneg (by omega)]; exact hi
            go_wp2_with fail
            go_meet
            exact ⟨rfl, rfl⟩
          · rw [if_neg h3] at hk
            subst hk
            have hi : (root : Int) % 4096 = 0 := by omega
            have hit : (root : Int).tmod 4096 = 0 := by rw [Int.tmod_eq_emod_of_nonneg (by omega)]; exact hi
            go_wp2_with fail
            go_meet
            exact ⟨rfl, rfl⟩
  case rest =>
  obtain ⟨rfl, rfl⟩ := hcut
  clear HK0
  have HW1 := Lib.hid hW1
  clear hW1
  go_upto_region 9 with fail
  rw [HW1.out]
  clear HW1 HB1
  go_wp2_with fail
  go_loopw [10, 12] (fun nv lvv wr => ∃ (lv : Nat) (k : Int) (x : Ent), nv = .int .i64 k ∧ lvv = .int .i64 (lv : Int) ∧ lv ≤ 3 ∧ Hid (TrR LL M root virt acc lv k x) ∧ Hid (TI w0 w base v w.heap.size (w.heap.size + 1) vr vd vp ps M L S X x wr)) (fun _ lvv _ => 3 - (intOf lvv).toNat)
  case atStart => exact ⟨0, k0, _, rfl, rfl, by omega, HR0, HI1⟩
  case round =>
    obtain ⟨lv, k, x, rfl, rfl, hlv, HR, HT⟩ := hrel
    clear HR0 HI1
    obtain ⟨t, tb, bg, wt, ex⟩ := x
    obtain ⟨x0, x1, x2, x3, x4⟩ := HT.out.ent.cells
    dsimp only at x0 x1 x2 x3 x4
    have HEnd : Hid (∀ (a b : Int), RM ((wr.setCell ⟨w.heap.size, 0, none⟩ (.int .i64 a)).setCell ⟨w.heap.size, 1, none⟩ (.int .u64 b)) base v vr vd vp ps M L S X ∧ Keeps (fun j => j = v) w ((wr.setCell ⟨w.heap.size, 0, none⟩ (.int .i64 a)).setCell ⟨w.heap.size, 1, none⟩ (.int .u64 b))) := fun a b => by
      have hk := Keeps.two wr w.heap.size (.int .i64 a) (.int .u64 b)
      refine ⟨HT.out.mac.keeps hk (fun j hj e => ?_), HT.out.keeps.trans hk (fun j hj e => by omega)⟩
      have e : j = w.heap.size := e
      obtain ⟨_, c, ty, fr, hc, ht⟩ := hj
      rw [e, show wr.heap[w.heap.size]? = _ from HT.out.fault] at hc
      cases hc
      rcases ht with ht | ht | ht <;> cases ht
    have hlx := HT.out.ent.lt
    have hlf := HT.out.fault.lt
    rcases HR.out with ⟨rfl, h2, h3, h4, h5⟩ | ⟨rfl, h2, h3, h5⟩ | ⟨h1, h5⟩
    · dsimp only at h2 h4 h5
      subst h2
      have HA := Lib.hid h5
      clear h5 HR
      obtain ⟨ix, hix⟩ : ∃ ix, ix = virt / rch lv % 512 := ⟨_, rfl⟩
      have hix5 : ix < 512 := by rw [hix]; exact Nat.mod_lt _ (by decide)
      have HIx : Hid (∀ W, Calls Tryz.prog 45 #[.int .u64 (virt : Int), .int .i64 (lv : Int)] W fun e w' => e = .returned (.int .u64 (ix : Int)) ∧ w' = W) := fun W => hix ▸ rindex_any h3 hvt W
      have HIe := Lib.hid hix
      clear hix
      have HTd : Hid (TI w0 w base v w.heap.size (w.heap.size + 1) vr vd vp ps M L S X (t, true, bg, wt, ex) wr.drew) := ⟨HT.out.below.trans (Below.mono ⟨rfl, rfl, rfl, Nat.le_refl _, fun _ _ => rfl⟩ HT.out.below.size), HT.out.keeps.drew, HT.out.mac, HT.out.fault, HT.out.ent⟩
      have HP : Hid (∀ W (q : Int), q = (t : Int) + 8 * (ix : Int) → TI w0 w base v w.heap.size (w.heap.size + 1) vr vd vp ps M L S X (t, true, bg, wt, ex) W → Calls Tryz.prog 44 #[.pointer (some ⟨v, 0, none⟩), .int .u64 q] W fun e w' => ∃ z b, e = .returned (.tuple #[.int .u64 ((z : Nat) : Int), .bool b]) ∧ z < 18446744073709551616 ∧ (b = true → ∀ l : Nat, l ≤ 2 → lookF LL M (t + 8 * ix) (l : Int) = entB z (l : Int)) ∧ (b = false → ∀ l : Nat, l ≤ 2 → lookF LL M (t + 8 * ix) (l : Int) = (no, 42)) ∧ TI w0 w base v w.heap.size (w.heap.size + 1) vr vd vp ps M L S X (t, true, bg, wt, ex) w') := fun W q hq hI => by
        have := HPk.out W _ (t + 8 * ix) (by omega) hI
        rw [hq, show (t : Int) + 8 * (ix : Int) = ((t + 8 * ix : Nat) : Int) from by omega]
        exact this
      go_upto_region 12 with fail
      go_cut [13, 14] from 31 to 57 (fun y1 y2 wx => ∃ (z : Nat) (b : Bool), y1 = .int .u64 (z : Int) ∧ y2 = .bool b ∧ z < 18446744073709551616 ∧ Hid ((b = true → lookF LL M (t + 8 * ix) (lv : Int) = entB z (lv : Int)) ∧ (b = false → lookF LL M (t + 8 * ix) (lv : Int) = (no, 42))) ∧ Hid (TI w0 w base v w.heap.size (w.heap.size + 1) vr vd vp ps M L S X (t, true, bg, wt, ex) wx))
      case first =>
        have HS0 : Hid (wr.drew.cell? ⟨w.heap.size + 1, 0, none⟩ = some (.int .u64 (t : Int))) := HTd.out.ent.cells.1
        clear HPk HA HIe HT x0 x1 x2 x3 x4
        go_region_held3 (fun wx => wx.cell? ⟨w.heap.size + 1, 0, none⟩ = some (.int .u64 (t : Int))) (first | exact HS1.out | exact HS0.out)
          (first
            | (go_at_call 45; refine (HIx.out _).mono ?_; rintro e w' ⟨rfl, rfl⟩)
            | (go_at_call 44; refine (HP.out _ _ (by first | rfl | omega | (simp only [IntKind.wrap_u64]; omega)) HTd.out).mono ?_; rintro e w1 ⟨z, b, rfl, hz, hb1, hb2, hT1⟩; have HS1 : Hid (w1.cell? ⟨w.heap.size + 1, 0, none⟩ = some (.int .u64 (t : Int))) := hT1.ent.cells.1; have HT1 := Lib.hid hT1; have HB1 := Lib.hid hb1; have HB2 := Lib.hid hb2; clear hT1 hb1 hb2))
        all_goals
          go_wp2_with fail
          go_meet
          exact ⟨z, b, rfl, rfl, hz, ⟨fun h => HB1.out h lv h3, fun h => HB2.out h lv h3⟩, HT1⟩
      case rest =>
      obtain ⟨z, b, rfl, rfl, hz, HB, HT2⟩ := hcut
      clear HT HTd HP HIx x0 x1 x2 x3 x4 hlx hlf
      cases b
      · have hl0 := HB.out.2 rfl
        have HR2 : Hid (TrR LL M root virt acc (lv + 1) 42 (t, true, bg, wt, ex)) := by
          have := trr_next (x := (t, true, bg, wt, ex)) HA.out h3 (by show lookF LL M (t + 8 * (virt / rch lv % 512)) (lv : Int) = (no, 42); rw [← HIe.out]; exact hl0)
          rcases this with ⟨h, _⟩ | ⟨h, _⟩ | ⟨_, h⟩
          · cases h
          · cases h
          · exact .inr (.inr ⟨by decide, h⟩)
        clear HB HA HIe HPk
        go_wp2_with fail
        exact ⟨⟨lv + 1, 42, _, rfl, by go_num, by omega, HR2, HT2⟩, by simp [intOf]; omega⟩
      · obtain ⟨r, hr⟩ : ∃ r, r = entB z (lv : Int) := ⟨_, rfl⟩
        have hl0 := HB.out.1 rfl
        rw [← hr] at hl0
        obtain ⟨⟨t2, tb2, bg2, wt2, ex2⟩, k2⟩ := r
        have HR2 : Hid (TrR LL M root virt acc (lv + 1) k2 (t2, tb2, bg2, wt2, ex2)) := trr_next (x := (t, true, bg, wt, ex)) HA.out h3 (by show lookF LL M (t + 8 * (virt / rch lv % 512)) (lv : Int) = _; rw [← HIe.out]; exact hl0)
        have HEn : Hid (∀ W, Calls Tryz.prog 46 #[.int .u64 (z : Int), .int .i64 (lv : Int)] W (EntPost W ((t2, tb2, bg2, wt2, ex2), k2))) := fun W => by
          have := refEntry_any hz (lv : Int) W
          rw [← hr] at this
          exact this
        clear HB HA HIe HPk hr hl0
        go_upto_region 15 with fail
        go_wp2_with fail
        refine (HEn.out _).mono ?_
        rintro e w5 ⟨rfl, hb5⟩
        have hT5 : TI w0 w base v w.heap.size (w.heap.size + 1) vr vd vp ps M L S X (t, true, bg, wt, ex) w5 := ⟨HT2.out.below.trans (hb5.mono HT2.out.below.size), HT2.out.keeps.trans (Keeps.of_below (S := fun _ => False) hb5) (fun _ _ e => e.elim), HT2.out.mac.below hb5, HT2.out.fault.below hb5, HT2.out.ent.below hb5⟩
        have HT5 := Lib.hid hT5
        obtain ⟨x0, x1, x2, x3, x4⟩ := hT5.ent.cells
        have f0 := hT5.ent.frozen 0
        have f1 := hT5.ent.frozen 1
        have f2 := hT5.ent.frozen 2
        have f3 := hT5.ent.frozen 3
        have f4 := hT5.ent.frozen 4
        dsimp only at x0 x1 x2 x3 x4
        have HT6 : Hid (TI w0 w base v w.heap.size (w.heap.size + 1) vr vd vp ps M L S X (t2, tb2, bg2, wt2, ex2) (putE w5 (w.heap.size + 1) (t2, tb2, bg2, wt2, ex2))) := by
          have hk := putE_keeps w5 (w.heap.size + 1) (t2, tb2, bg2, wt2, ex2)
          have hww := HW0.out
          refine ⟨below_keeps hT5.below hk (fun j e => by omega), hT5.keeps.trans hk (fun j hj e => by omega), hT5.mac.keeps hk (fun j hj e => ?_), hT5.fault.keeps hk (by omega), hT5.ent.put _⟩
          have e : j = w.heap.size + 1 := e
          obtain ⟨_, c, ty, fr, hc, ht⟩ := hj
          rw [e, show w5.heap[w.heap.size + 1]? = _ from hT5.ent] at hc
          cases hc
          rcases ht with ht | ht | ht <;> cases ht
        unfold putE at HT6
        dsimp only at HT6
        clear hT5 HT5 HT2 hb5 HEn
        dsimp only [EntV]
        go_wp2_with fail
        exact ⟨⟨lv + 1, k2, _, rfl, by go_num, by omega, HR2, HT6⟩, by simp [intOf]; omega⟩
    · dsimp only at h2 h3 h5
      subst h2
      have HA := Lib.hid h5
      clear h5 HR
      by_cases ha2 : acc = 2
      · subst ha2
        cases wt
        · have HE : Hid (adrF LL M root virt 2 = (0, 43)) := by
            show _ = _
            rw [HA.out]
            unfold addrB
            rw [if_neg (by simp), if_pos ⟨rfl, rfl⟩]
          obtain ⟨q0, q1, q2, q3⟩ := HT.out.fault.cells
          obtain ⟨s0, s1, _, _⟩ := (HT.out.fault.set 43 (virt : Int)).cells
          have HF : Hid (RM ((wr.setCell ⟨w.heap.size, 0, none⟩ (.int .i64 43)).setCell ⟨w.heap.size, 1, none⟩ (.int .u64 (virt : Int))) base v vr vd vp ps M L S X ∧ Keeps (fun j => j = v) w ((wr.setCell ⟨w.heap.size, 0, none⟩ (.int .i64 43)).setCell ⟨w.heap.size, 1, none⟩ (.int .u64 (virt : Int)))) := HEnd.out 43 (virt : Int)
          go_wp2_with fail
          refine bodyPost_ret (v := .tuple #[.int .u64 0, .agg #[.int .i64 43, .int .u64 (virt : Int)]]) (by simp [results, Tryz.results21, go_sem, s0, s1]) rfl ?_
          rw [HE.out]
          exact ⟨rfl, HF.out.1, HF.out.2⟩
        · cases bg
          · obtain ⟨d, hd⟩ : ∃ d : Nat, d = virt % 4096 := ⟨_, rfl⟩
            have hd1 : (virt : Int) % 4096 = (d : Int) := by omega
            have hd2 : (virt : Int).tmod 4096 = (d : Int) := by rw [Int.tmod_eq_emod_of_nonneg (by omega)]; exact hd1
            have hd3 : d < 4096 := by omega
            have HE : Hid (adrF LL M root virt 2 = (t + d, 0)) := by
              show _ = _
              rw [HA.out]
              unfold addrB
              rw [if_neg (by simp), if_neg (by simp_all), if_neg (by simp_all), if_neg (by simp), hd]
            clear hd
            obtain ⟨q0, q1, q2, q3⟩ := HT.out.fault.cells
            obtain ⟨s0, s1, _, _⟩ := (HT.out.fault.set 0 0).cells
            have HF : Hid (RM ((wr.setCell ⟨w.heap.size, 0, none⟩ (.int .i64 0)).setCell ⟨w.heap.size, 1, none⟩ (.int .u64 0)) base v vr vd vp ps M L S X ∧ Keeps (fun j => j = v) w ((wr.setCell ⟨w.heap.size, 0, none⟩ (.int .i64 0)).setCell ⟨w.heap.size, 1, none⟩ (.int .u64 0))) := HEnd.out 0 0
            go_wp2_with fail
            refine bodyPost_ret (v := .tuple #[.int .u64 ((t : Int) + (d : Int)), .agg #[.int .i64 0, .int .u64 0]]) (by simp [results, Tryz.results21, go_sem, s0, s1]) rfl ?_
            rw [HE.out, show ((t + d : Nat) : Int) = (t : Int) + (d : Int) from by omega]
            exact ⟨rfl, HF.out.1, HF.out.2⟩
          · obtain ⟨d, hd⟩ : ∃ d : Nat, d = virt % 2097152 := ⟨_, rfl⟩
            have hd1 : (virt : Int) % 2097152 = (d : Int) := by omega
            have hd2 : (virt : Int).tmod 2097152 = (d : Int) := by rw [Int.tmod_eq_emod_of_nonneg (by omega)]; exact hd1
            have hd3 : d < 2097152 := by omega
            have HE : Hid (adrF LL M root virt 2 = (t + d, 0)) := by
              show _ = _
              rw [HA.out]
              unfold addrB
              rw [if_neg (by simp), if_neg (by simp_all), if_neg (by simp_all), if_pos rfl, hd]
            clear hd
            obtain ⟨q0, q1, q2, q3⟩ := HT.out.fault.cells
            obtain ⟨s0, s1, _, _⟩ := (HT.out.fault.set 0 0).cells
            have HF : Hid (RM ((wr.setCell ⟨w.heap.size, 0, none⟩ (.int .i64 0)).setCell ⟨w.heap.size, 1, none⟩ (.int .u64 0)) base v vr vd vp ps M L S X ∧ Keeps (fun j => j = v) w ((wr.setCell ⟨w.heap.size, 0, none⟩ (.int .i64 0)).setCell ⟨w.heap.size, 1, none⟩ (.int .u64 0))) := HEnd.out 0 0
            go_wp2_with fail
            refine bodyPost_ret (v := .tuple #[.int .u64 ((t : Int) + (d : Int)), .agg #[.int .i64 0, .int .u64 0]]) (by simp [results, Tryz.results21, go_sem, s0, s1]) rfl ?_
            rw [HE.out, show ((t + d : Nat) : Int) = (t : Int) + (d : Int) from by omega]
            exact ⟨rfl, HF.out.1, HF.out.2⟩
      · by_cases ha3 : acc = 3
        · subst ha3
          cases ex
          · have HE : Hid (adrF LL M root virt 3 = (0, 44)) := by
              show _ = _
              rw [HA.out]
              unfold addrB
              rw [if_neg (by simp), if_neg (by simp), if_pos ⟨rfl, rfl⟩]
            obtain ⟨q0, q1, q2, q3⟩ := HT.out.fault.cells
            obtain ⟨s0, s1, _, _⟩ := (HT.out.fault.set 44 (virt : Int)).cells
            have HF : Hid (RM ((wr.setCell ⟨w.heap.size, 0, none⟩ (.int .i64 44)).setCell ⟨w.heap.size, 1, none⟩ (.int .u64 (virt : Int))) base v vr vd vp ps M L S X ∧ Keeps (fun j => j = v) w ((wr.setCell ⟨w.heap.size, 0, none⟩ (.int .i64 44)).setCell ⟨w.heap.size, 1, none⟩ (.int .u64 (virt : Int)))) := HEnd.out 44 (virt : Int)
            go_wp2_with fail
            refine bodyPost_ret (v := .tuple #[.int .u64 0, .agg #[.int .i64 44, .int .u64 (virt : Int)]]) (by simp [results, Tryz.results21, go_sem, s0, s1]) rfl ?_
            rw [HE.out]
            exact ⟨rfl, HF.out.1, HF.out.2⟩
          · cases bg
            · obtain ⟨d, hd⟩ : ∃ d : Nat, d = virt % 4096 := ⟨_, rfl⟩
              have hd1 : (virt : Int) % 4096 = (d : Int) := by omega
              have hd2 : (virt : Int).tmod 4096 = (d : Int) := by rw [Int.tmod_eq_emod_of_nonneg (by omega)]; exact hd1
              have hd3 : d < 4096 := by omega
              have HE : Hid (adrF LL M root virt 3 = (t + d, 0)) := by
                show _ = _
                rw [HA.out]
                unfold addrB
                rw [if_neg (by simp), if_neg (by simp_all), if_neg (by simp_all), if_neg (by simp), hd]
              clear hd
              obtain ⟨q0, q1, q2, q3⟩ := HT.out.fault.cells
              obtain ⟨s0, s1, _, _⟩ := (HT.out.fault.set 0 0).cells
              have HF : Hid (RM ((wr.setCell ⟨w.heap.size, 0, none⟩ (.int .i64 0)).setCell ⟨w.heap.size, 1, none⟩ (.int .u64 0)) base v vr vd vp ps M L S X ∧ Keeps (fun j => j = v) w ((wr.setCell ⟨w.heap.size, 0, none⟩ (.int .i64 0)).setCell ⟨w.heap.size, 1, none⟩ (.int .u64 0))) := HEnd.out 0 0
              go_wp2_with fail
              refine bodyPost_ret (v := .tuple #[.int .u64 ((t : Int) + (d : Int)), .agg #[.int .i64 0, .int .u64 0]]) (by simp [results, Tryz.results21, go_sem, s0, s1]) rfl ?_
              rw [HE.out, show ((t + d : Nat) : Int) = (t : Int) + (d : Int) from by omega]
              exact ⟨rfl, HF.out.1, HF.out.2⟩
            · obtain ⟨d, hd⟩ : ∃ d : Nat, d = virt % 2097152 := ⟨_, rfl⟩
              have hd1 : (virt : Int) % 2097152 = (d : Int) := by omega
              have hd2 : (virt : Int).tmod 2097152 = (d : Int) := by rw [Int.tmod_eq_emod_of_nonneg (by omega)]; exact hd1
              have hd3 : d < 2097152 := by omega
              have HE : Hid (adrF LL M root virt 3 = (t + d, 0)) := by
                show _ = _
                rw [HA.out]
                unfold addrB
                rw [if_neg (by simp), if_neg (by simp_all), if_neg (by simp_all), if_pos rfl, hd]
              clear hd
              obtain ⟨q0, q1, q2, q3⟩ := HT.out.fault.cells
              obtain ⟨s0, s1, _, _⟩ := (HT.out.fault.set 0 0).cells
              have HF : Hid (RM ((wr.setCell ⟨w.heap.size, 0, none⟩ (.int .i64 0)).setCell ⟨w.heap.size, 1, none⟩ (.int .u64 0)) base v vr vd vp ps M L S X ∧ Keeps (fun j => j = v) w ((wr.setCell ⟨w.heap.size, 0, none⟩ (.int .i64 0)).setCell ⟨w.heap.size, 1, none⟩ (.int .u64 0))) := HEnd.out 0 0
              go_wp2_with fail
              refine bodyPost_ret (v := .tuple #[.int .u64 ((t : Int) + (d : Int)), .agg #[.int .i64 0, .int .u64 0]]) (by simp [results, Tryz.results21, go_sem, s0, s1]) rfl ?_
              rw [HE.out, show ((t + d : Nat) : Int) = (t : Int) + (d : Int) from by omega]
              exact ⟨rfl, HF.out.1, HF.out.2⟩
        · have hb2 : (acc == 2) = false := by simpa using ha2
          have hb3 : (acc == 3) = false := by simpa using ha3
          cases bg
          · obtain ⟨d, hd⟩ : ∃ d : Nat, d = virt % 4096 := ⟨_, rfl⟩
            have hd1 : (virt : Int) % 4096 = (d : Int) := by omega
            have hd2 : (virt : Int).tmod 4096 = (d : Int) := by rw [Int.tmod_eq_emod_of_nonneg (by omega)]; exact hd1
            have hd3 : d < 4096 := by omega
            have HE : Hid (adrF LL M root virt acc = (t + d, 0)) := by
              show _ = _
              rw [HA.out]
              unfold addrB
              rw [if_neg (by simp), if_neg (by simp_all), if_neg (by simp_all), if_neg (by simp), hd]
            clear hd
            obtain ⟨q0, q1, q2, q3⟩ := HT.out.fault.cells
            obtain ⟨s0, s1, _, _⟩ := (HT.out.fault.set 0 0).cells
            have HF : Hid (RM ((wr.setCell ⟨w.heap.size, 0, none⟩ (.int .i64 0)).setCell ⟨w.heap.size, 1, none⟩ (.int .u64 0)) base v vr vd vp ps M L S X ∧ Keeps (fun j => j = v) w ((wr.setCell ⟨w.heap.size, 0, none⟩ (.int .i64 0)).setCell ⟨w.heap.size, 1, none⟩ (.int .u64 0))) := HEnd.out 0 0
            go_wp2_with fail
            refine bodyPost_ret (v := .tuple #[.int .u64 ((t : Int) + (d : Int)), .agg #[.int .i64 0, .int .u64 0]]) (by simp [results, Tryz.results21, go_sem, s0, s1]) rfl ?_
            rw [HE.out, show ((t + d : Nat) : Int) = (t : Int) + (d : Int) from by omega]
            exact ⟨rfl, HF.out.1, HF.out.2⟩
          · obtain ⟨d, hd⟩ : ∃ d : Nat, d = virt % 2097152 := ⟨_, rfl⟩
            have hd1 : (virt : Int) % 2097152 = (d : Int) := by omega
            have hd2 : (virt : Int).tmod 2097152 = (d : Int) := by rw [Int.tmod_eq_emod_of_nonneg (by omega)]; exact hd1
            have hd3 : d < 2097152 := by omega
            have HE : Hid (adrF LL M root virt acc = (t + d, 0)) := by
              show _ = _
              rw [HA.out]
              unfold addrB
              rw [if_neg (by simp), if_neg (by simp_all), if_neg (by simp_all), if_pos rfl, hd]
            clear hd
            obtain ⟨q0, q1, q2, q3⟩ := HT.out.fault.cells
            obtain ⟨s0, s1, _, _⟩ := (HT.out.fault.set 0 0).cells
            have HF : Hid (RM ((wr.setCell ⟨w.heap.size, 0, none⟩ (.int .i64 0)).setCell ⟨w.heap.size, 1, none⟩ (.int .u64 0)) base v vr vd vp ps M L S X ∧ Keeps (fun j => j = v) w ((wr.setCell ⟨w.heap.size, 0, none⟩ (.int .i64 0)).setCell ⟨w.heap.size, 1, none⟩ (.int .u64 0))) := HEnd.out 0 0
            go_wp2_with fail
            refine bodyPost_ret (v := .tuple #[.int .u64 ((t : Int) + (d : Int)), .agg #[.int .i64 0, .int .u64 0]]) (by simp [results, Tryz.results21, go_sem, s0, s1]) rfl ?_
            rw [HE.out, show ((t + d : Nat) : Int) = (t : Int) + (d : Int) from by omega]
            exact ⟨rfl, HF.out.1, HF.out.2⟩
    · have HE := Lib.hid h5
      have hkb : (k == 0) = false := by simpa using h1
      have hkn : (k != 0) = true := by simpa using h1
      have HWh : Hid (whyAt k virt = virt) := by show _ = _; unfold whyAt; rw [if_neg h1]
      clear h5 HR
      obtain ⟨q0, q1, q2, q3⟩ := HT.out.fault.cells
      obtain ⟨s0, s1, _, _⟩ := (HT.out.fault.set k (virt : Int)).cells
      have HF : Hid (RM ((wr.setCell ⟨w.heap.size, 0, none⟩ (.int .i64 k)).setCell ⟨w.heap.size, 1, none⟩ (.int .u64 (virt : Int))) base v vr vd vp ps M L S X ∧ Keeps (fun j => j = v) w ((wr.setCell ⟨w.heap.size, 0, none⟩ (.int .i64 k)).setCell ⟨w.heap.size, 1, none⟩ (.int .u64 (virt : Int)))) := HEnd.out k (virt : Int)
      go_wp2_with fail
      refine bodyPost_ret (v := .tuple #[.int .u64 0, .agg #[.int .i64 k, .int .u64 (virt : Int)]]) (by simp [results, Tryz.results21, go_sem, s0, s1]) rfl ?_
      rw [HE.out]
      exact ⟨by show _ = Ending.returned (Value.tuple #[.int .u64 0, .agg #[.int .i64 k, .int .u64 (whyAt k virt : Int)]]); rw [HWh.out], HF.out.1, HF.out.2⟩
end Go.Proofs.YtdkhhofgfbnmkaaGreat
