/- BusClones: the walk. Own work. -/
import Derived.Test.YtacmdalgdbfehaaBPair
import Derived.Test.YtacmdalgdbfehaaBFills2
import Derived.Deep.DeepCutAuto
import Derived.Deep.CutBlock
namespace Go.Proofs.Ytacmdalgdbfehaa
open Go.RowKit Go.Maps Go.Proofs.Ytacmdalgdbfehaa.Sp
theorem num_byte (M : Nat → Nat) (a : Nat) : Pl.num 8 (rdTo M a 8 1) = M a := by
  have e : rdTo M a 8 1 = [M a, 0, 0, 0, 0, 0, 0, 0] := by
    simp [rdTo, bytesAt, List.range_succ]
  rw [e]
  simp [Pl.num, Pl.acc]
theorem off_not {a n : Nat} {x : Int} {b : Bool} (h : OffR (rsG ++ dsG) a n x b) (h1 : 8192 ≤ a ∧ a + n ≤ 24576) : b = false := by
  have := off_ok h
  rw [decide_eq_true (.inr h1)] at this
  exact this
set_option maxRecDepth 100000 in
set_option maxHeartbeats 8000000 in
theorem clones_walk {w : World} {t : Value} {zs : List Nat} {at_ v : Nat} {which : Bool} (ht : Sl w t zs) (ha : at_ ≤ 18446744073709551615) (hv : v ≤ 18446744073709551615) :
    Calls Try.prog 4 #[t, .int .u64 (at_ : Int), .int .u64 (v : Int), .bool which] w fun e w' => e = .returned (.bool true) ∧ Below w.heap.size w w' := by
  have HG : Hid (∀ W, Below w.heap.size w W → Calls Try.prog 16 #[t] W (GroundPost0 W)) := fun W hW => ground_zero (ht.below hW)
  obtain ⟨ao, cap, rfl, h1, h2, _, _, _⟩ := ht
  unfold maxLen at h2
  go_enter Try.func4, Try.ntmps4
  go_wp2_with fail
  refine (HG.out _ (Below.refl _ _)).mono ?_
  rintro e w1 ⟨m, B, V, T, M, S, rfl, hS, hb1, hm1, hn1, hbare⟩
  have HB1 : Hid (Below w.heap.size w w1) := hb1
  have HM1 : Hid (Mac w1 m B V T M rsG dsG 0 S 0) := hm1
  have HN1 : Hid (∀ j, Mine m B V T j → w.heap.size ≤ j) := hn1
  have HZ1 : Hid (Bare M) := hbare
  clear HG hb1 hm1 hn1 hbare
  go_wp2_with fail
  refine (clone_any HM1.out (by decide) (by decide)).mono ?_
  rintro e w2 ⟨m', B', V', T', rfl, hb2, hm2, e1, e2, e3, e4⟩
  have HM2 : Hid (Mac w2 m B V T M rsG dsG 0 S 0) := HM1.out.below hb2
  have HC2 : Hid (Mac w2 m' B' V' T' M rsG dsG 0 0 0) := hm2
  have HB2 : Hid (Below w.heap.size w w2) := HB1.out.trans (hb2.mono HB1.out.size)
  have HA2 : Hid (Apt m B T m' B' V' T' ∧ Apt m' B' T' m B V T) := Apt.clone HM1.out (own_ground HM1.out) e1 e2 e3 e4
  have HN2 : Hid (∀ j, Mine m' B' V' T' j → w.heap.size ≤ j) := mine_clone HB1.out.size (fun j hj => HN1.out j (.inr (.inr ⟨_, .inr (.inr rfl), hj⟩))) e1 e2 e3 e4
  clear hb2 hm2 e1 e2 e3 e4 HM1 HB1
  go_wp2_with fail
  refine (all_any HM2.out (by omega)).mono ?_
  rintro e w3 ⟨g, rfl, HR3, HG3, HM3, HK3⟩
  have HC3 : Hid (Mac w3 m' B' V' T' M rsG dsG 0 0 0) := HC2.out.keeps HK3.out (fun j hj e => HA2.out.1 j hj (.inl e))
  have HB3 : Hid (Below w.heap.size w w3) := below_mine HB2.out HK3.out (fun j e => by have e : j = m := e; exact HN1.out j (.inl e))
  have HF3 : Hid (¬ Mine m' B' V' T' g) := fun hf => by have := HC2.out.mine_lt hf; have := HG3.out; omega
  clear HM2 HC2 HB2 HK3 HG3
  go_wp2_with fail
  refine (all_any HC3.out (by omega)).mono ?_
  rintro e w4 ⟨g4, rfl, HR4, HG4, HC4, HK4⟩
  have HM4 : Hid (Mac w4 m B V T M rsG dsG 0 S 0) := HM3.out.keeps HK4.out (fun j hj e => HA2.out.2 j hj (.inl e))
  have HB4 : Hid (Below w.heap.size w w4) := below_mine HB3.out HK4.out (fun j e => by have e : j = m' := e; exact HN2.out j (.inl e))
  have HRm4 : Hid (RowT w4 5 g (bytesAt M 8192 16384)) := HR3.out.keeps HK4.out (fun e => HF3.out (.inl e))
  have HSm : Hid (Calls Try.prog 18 #[.slice (some ⟨g, 0, none⟩) 16384 16384, .slice (some ⟨g4, 0, none⟩) 16384 16384] w4 fun e w' => e = .returned (.bool true) ∧ Below w4.heap.size w4 w') := bookSame_yes HRm4.out HR4.out (bytesAt_length _ _ _) (by decide)
  clear HM3 HC3 HB3 HK4 HG4 HR3 HF3
  go_wp2_with fail
  refine HSm.out.mono ?_
  rintro e w5 ⟨rfl, hb5⟩
  have HM5 : Hid (Mac w5 m B V T M rsG dsG 0 S 0) := HM4.out.below hb5
  have HC5 : Hid (Mac w5 m' B' V' T' M rsG dsG 0 0 0) := HC4.out.below hb5
  have HB5 : Hid (Below w.heap.size w w5) := HB4.out.trans (hb5.mono HB4.out.size)
  clear hb5 HSm HM4 HC4 HB4 HR4 HRm4
  go_wp2_with fail
  refine (kept_any HC5.out).mono ?_
  rintro e w' ⟨rfl, hw⟩
  have hw := hw.symm
  subst hw
  go_wp2_with fail
  refine (kept_any HM5.out).mono ?_
  rintro e w' ⟨rfl, hw⟩
  have hw := hw.symm
  subst hw
  go_wp2_with fail
  refine (bus_any HM5.out (by decide) (by decide)).mono ?_
  rintro e w6 ⟨a6, n6, c6, a7, n7, c7, rfl, HL6, HS6⟩
  have HM6 : Hid (Mac w6 m B V T M rsG dsG 0 S 0) := HM5.out.below HL6.out
  have HC6 : Hid (Mac w6 m' B' V' T' M rsG dsG 0 0 0) := HC5.out.below HL6.out
  have HB6 : Hid (Below w.heap.size w w6) := HB5.out.trans (HL6.out.mono HB5.out.size)
  clear HL6 HM5 HC5 HB5
  go_wp2_with fail
  refine (bus_any HC6.out (by decide) (by decide)).mono ?_
  rintro e w7 ⟨a8, n8, c8, a9, n9, c9, rfl, HL7, HS7⟩
  have HM7 : Hid (Mac w7 m B V T M rsG dsG 0 S 0) := HM6.out.below HL7.out
  have HC7 : Hid (Mac w7 m' B' V' T' M rsG dsG 0 0 0) := HC6.out.below HL7.out
  have HB7 : Hid (Below w.heap.size w w7) := HB6.out.trans (HL7.out.mono HB6.out.size)
  have HSb : Hid (Calls Try.prog 14 #[.agg #[.slice a6 n6 c6, .slice a7 n7 c7], .agg #[.slice a8 n8 c8, .slice a9 n9 c9]] w7 fun e w' => e = .returned (.bool true) ∧ Below w7.heap.size w7 w') := sameBus_yes (HS6.out.1.below HL7.out (Nat.le_refl _)) (HS6.out.2.below HL7.out (Nat.le_refl _)) HS7.out.1 HS7.out.2
  clear HL7 HM6 HC6 HB6 HS6 HS7
  go_wp2_with fail
  refine HSb.out.mono ?_
  rintro e w8 ⟨rfl, hb8⟩
  have HB8 : Hid (Below w.heap.size w w8) := HB7.out.trans (hb8.mono HB7.out.size)
  have HT8 : Hid (Two w w8 M m m') := ⟨B, V, T, 0, S, 0, B', V', T', 0, 0, 0, HM7.out.below hb8, HC7.out.below hb8, HN1.out, HN2.out, HA2.out.1, HA2.out.2, by omega, by omega, by omega, by omega, by omega, by omega⟩
  clear hb8 HSb HM7 HC7 HB7 HN1 HN2 HA2
  go_upto_if 53 with fail
  go_cut [11, 12] (fun ya yb wx => ∃ p q, ya = .pointer (some ⟨p, 0, none⟩) ∧ yb = .pointer (some ⟨q, 0, none⟩) ∧ wx = w8 ∧ Hid (Two w w8 M p q))
  case first =>
    cases which with
    | true =>
      go_wp2_with fail
      go_meet
      exact ⟨m', m, rfl, rfl, rfl, HT8.out.swap⟩
    | false =>
      go_wp2_with fail
      go_meet
      exact ⟨m, m', rfl, rfl, rfl, HT8.out⟩
  case rest =>
    obtain ⟨p, q, rfl, rfl, hw, HT⟩ := hcut
    have hw := hw.symm
    subst hw
    obtain ⟨Bp, Vp, Tp, Lp, Sp, Xp, Bq, Vq, Tq, Lq, Sq, Xq, t1, t2, t3, t4, t5, t6, l1, l2, l3, l4, l5, l6⟩ := HT.out
    have HP8 : Hid (Mac w8 p Bp Vp Tp M rsG dsG Lp Sp Xp) := t1
    have HQ8 : Hid (Mac w8 q Bq Vq Tq M rsG dsG Lq Sq Xq) := t2
    have HNp : Hid (∀ j, Mine p Bp Vp Tp j → w.heap.size ≤ j) := t3
    have HNq : Hid (∀ j, Mine q Bq Vq Tq j → w.heap.size ≤ j) := t4
    have HA8 : Hid (Apt p Bp Tp q Bq Vq Tq ∧ Apt q Bq Tq p Bp Vp Tp) := ⟨t5, t6⟩
    clear t1 t2 t3 t4 t5 t6 HT HT8
    go_wp2_with fail
    refine (all_any HQ8.out (by omega)).mono ?_
    rintro e w9 ⟨g, rfl, HR9, HG9, HQ9, HK9⟩
    have HP9 : Hid (Mac w9 p Bp Vp Tp M rsG dsG Lp Sp Xp) := HP8.out.keeps HK9.out (fun j hj e => HA8.out.2 j hj (.inl e))
    have HB9 : Hid (Below w.heap.size w w9) := below_mine HB8.out HK9.out (fun j e => by have e : j = q := e; exact HNq.out j (.inl e))
    have HFp : Hid (¬ Mine p Bp Vp Tp g) := fun hf => by have := HP8.out.mine_lt hf; have := HG9.out; omega
    have HFq : Hid (¬ Mine q Bq Vq Tq g) := fun hf => by have := HQ8.out.mine_lt hf; have := HG9.out; omega
    have HGw : Hid (w.heap.size ≤ g) := Nat.le_trans HB8.out.size HG9.out
    clear HP8 HQ8 HB8 HK9 HG9
    obtain ⟨A, hA⟩ : ∃ A : Nat, (8192 : Int) + (at_ : Int) % 16376 = (A : Int) := ⟨8192 + at_ % 16376, by omega⟩
    have hA1 : 8192 ≤ A ∧ A + 8 ≤ 24576 := by omega
    go_wp2_with fail
    refine (loads_any HQ9.out).mono ?_
    rintro e w' ⟨rfl, hw⟩
    have hw := hw.symm
    subst hw
    go_wp2_with fail
    refine (store_any HP9.out (by omega) (.inr (.inr (.inr rfl))) hv (by omega) (by omega)).mono ?_
    rintro e w10 ⟨x, b, ho, rfl, hk, _, ht⟩
    obtain rfl := off_not ho (by omega)
    obtain ⟨T1, hm, hg⟩ := ht rfl
    obtain ⟨M1, hM1⟩ : ∃ M1, putAt M A ((Pl.le 8 v).take 8) = M1 := ⟨_, rfl⟩
    rw [hM1] at hm
    have HP10 : Hid (Mac w10 p Bp Vp T1 M1 rsG dsG Lp (Sp + 1) Xp) := hm
    have HQ10 : Hid (Mac w10 q Bq Vq Tq M rsG dsG Lq Sq Xq) := HQ9.out.keeps hk HA8.out.1
    have HA10 : Hid (Apt p Bp T1 q Bq Vq Tq ∧ Apt q Bq Tq p Bp Vp T1) := ⟨HA8.out.1.grow1 HQ9.out hg, HA8.out.2.grow2 HQ9.out hg⟩
    have HNp10 : Hid (∀ j, Mine p Bp Vp T1 j → w.heap.size ≤ j) := mine_grows HNp.out hg HB9.out.size
    have HB10 : Hid (Below w.heap.size w w10) := below_mine HB9.out hk (fun j e => HNp.out j (mine_of e))
    have HR10 : Hid (RowT w10 5 g (bytesAt M 8192 16384)) := HR9.out.keeps hk (fun e => HFp.out (mine_of e))
    have HFp10 : Hid (¬ Mine p Bp Vp T1 g) := not_grown HFp.out hg HR9.out.lt
    clear ho hk ht hm hg hM1 HP9 HQ9 HA8 HNp HB9 HR9 HFp
    simp only [FaultV]
    go_wp2_with fail
    refine (load_any HP10.out (by omega) (.inr (.inr (.inr rfl))) (by omega) (by omega)).mono ?_
    rintro e w11 ⟨x', b', ho, rfl, hm, hk⟩
    obtain rfl := off_not ho (by omega)
    have HP11 : Hid (Mac w11 p Bp Vp T1 M1 rsG dsG (Lp + 1) (Sp + 1) Xp) := hm
    have HQ11 : Hid (Mac w11 q Bq Vq Tq M rsG dsG Lq Sq Xq) := HQ10.out.keeps hk (fun j hj e => HA10.out.1 j hj (.inl e))
    have HB11 : Hid (Below w.heap.size w w11) := below_mine HB10.out hk (fun j e => by have e : j = p := e; exact HNp10.out j (.inl e))
    have HR11 : Hid (RowT w11 5 g (bytesAt M 8192 16384)) := HR10.out.keeps hk (fun e => HFp10.out (.inl e))
    clear ho hm hk HP10 HQ10 HB10 HR10
    simp only [FaultV]
    obtain ⟨z, hz⟩ : ∃ z : Nat, (v : Int) % 256 = (z : Int) := ⟨v % 256, by omega⟩
    have hz2 : z < 256 := by omega
    go_wp2_with fail
    refine (fillM_any (a := 12288) (n := 4096) HP11.out (by omega) (by omega) hz2 (by omega)).mono ?_
    rintro e w12 ⟨x2, b2, ho, rfl, hk, _, ht⟩
    obtain rfl := off_not ho (by omega)
    obtain ⟨T2, hm, hg⟩ := ht rfl
    have HMz : Hid (putAt M1 12288 (List.replicate 4096 z) 12288 = z) := by
      have := putAt_in M1 12288 (List.replicate 4096 z) 0 (by rw [List.length_replicate]; omega)
      rw [List.getD_eq_getElem?_getD, List.getElem?_replicate, if_pos (by omega)] at this
      exact this
    obtain ⟨M2, hM2⟩ : ∃ M2, putAt M1 12288 (List.replicate 4096 z) = M2 := ⟨_, rfl⟩
    rw [hM2] at hm HMz
    have HP12 : Hid (Mac w12 p Bp Vp T2 M2 rsG dsG (Lp + 1) (Sp + 1) Xp) := hm
    have HQ12 : Hid (Mac w12 q Bq Vq Tq M rsG dsG Lq Sq Xq) := HQ11.out.keeps hk HA10.out.1
    have HA12 : Hid (Apt p Bp T2 q Bq Vq Tq ∧ Apt q Bq Tq p Bp Vp T2) := ⟨HA10.out.1.grow1 HQ11.out hg, HA10.out.2.grow2 HQ11.out hg⟩
    have HNp12 : Hid (∀ j, Mine p Bp Vp T2 j → w.heap.size ≤ j) := mine_grows HNp10.out hg HB11.out.size
    have HB12 : Hid (Below w.heap.size w w12) := below_mine HB11.out hk (fun j e => HNp10.out j (mine_of e))
    have HR12 : Hid (RowT w12 5 g (bytesAt M 8192 16384)) := HR11.out.keeps hk (fun e => HFp10.out (mine_of e))
    have HFp12 : Hid (¬ Mine p Bp Vp T2 g) := not_grown HFp10.out hg HR11.out.lt
    clear ho hk ht hm hg hM2 HP11 HQ11 HA10 HNp10 HB11 HR11 HFp10
    simp only [FaultV]
    go_wp2_with fail
    refine (clone_any HP12.out (by decide) (by decide)).mono ?_
    rintro e w13 ⟨d, Bd, Vd, Td, rfl, hb, hm, e1, e2, e3, e4⟩
    have HP13 : Hid (Mac w13 p Bp Vp T2 M2 rsG dsG (Lp + 1) (Sp + 1) Xp) := HP12.out.below hb
    have HQ13 : Hid (Mac w13 q Bq Vq Tq M rsG dsG Lq Sq Xq) := HQ12.out.below hb
    have HD13 : Hid (Mac w13 d Bd Vd Td M2 rsG dsG 0 0 0) := hm
    have HPD : Hid (Apt p Bp T2 d Bd Vd Td ∧ Apt d Bd Td p Bp Vp T2) := Apt.clone HP12.out (own_ground HP12.out) e1 e2 e3 e4
    have HQD : Hid (Apt q Bq Tq d Bd Vd Td ∧ Apt d Bd Td q Bq Vq Tq) := Apt.clone HQ12.out (apt_ground HA12.out.2) e1 e2 e3 e4
    have HNd : Hid (∀ j, Mine d Bd Vd Td j → w.heap.size ≤ j) := mine_clone HB12.out.size (fun j hj => HNp12.out j (.inr (.inr ⟨_, .inr (.inr rfl), hj⟩))) e1 e2 e3 e4
    have HB13 : Hid (Below w.heap.size w w13) := HB12.out.trans (hb.mono HB12.out.size)
    have HR13 : Hid (RowT w13 5 g (bytesAt M 8192 16384)) := HR12.out.below hb
    clear hb hm e1 e2 e3 e4 HP12 HQ12 HB12 HR12
    go_wp2_with fail
    refine (all_any HQ13.out (by omega)).mono ?_
    rintro e w14 ⟨g14, rfl, HRb, HGb, HQ14, HK14⟩
    have HP14 : Hid (Mac w14 p Bp Vp T2 M2 rsG dsG (Lp + 1) (Sp + 1) Xp) := HP13.out.keeps HK14.out (fun j hj e => HA12.out.2 j hj (.inl e))
    have HD14 : Hid (Mac w14 d Bd Vd Td M2 rsG dsG 0 0 0) := HD13.out.keeps HK14.out (fun j hj e => HQD.out.1 j hj (.inl e))
    have HB14 : Hid (Below w.heap.size w w14) := below_mine HB13.out HK14.out (fun j e => by have e : j = q := e; exact HNq.out j (.inl e))
    have HR14 : Hid (RowT w14 5 g (bytesAt M 8192 16384)) := HR13.out.keeps HK14.out (fun e => HFq.out (.inl e))
    have HSm : Hid (Calls Try.prog 18 #[.slice (some ⟨g14, 0, none⟩) 16384 16384, .slice (some ⟨g, 0, none⟩) 16384 16384] w14 fun e w' => e = .returned (.bool true) ∧ Below w14.heap.size w14 w') := bookSame_yes HRb.out HR14.out (bytesAt_length _ _ _) (by decide)
    clear HP13 HQ13 HD13 HB13 HR13 HK14 HGb HRb
    go_wp2_with fail
    refine HSm.out.mono ?_
    rintro e w15 ⟨rfl, hb⟩
    have HP15 : Hid (Mac w15 p Bp Vp T2 M2 rsG dsG (Lp + 1) (Sp + 1) Xp) := HP14.out.below hb
    have HQ15 : Hid (Mac w15 q Bq Vq Tq M rsG dsG Lq Sq Xq) := HQ14.out.below hb
    have HD15 : Hid (Mac w15 d Bd Vd Td M2 rsG dsG 0 0 0) := HD14.out.below hb
    have HB15 : Hid (Below w.heap.size w w15) := HB14.out.trans (hb.mono HB14.out.size)
    clear hb HSm HP14 HQ14 HD14 HB14 HR14
    go_wp2_with fail
    refine (loads_any HQ15.out).mono ?_
    rintro e w' ⟨rfl, hw⟩
    have hw := hw.symm
    subst hw
    go_wp2_with fail
    refine (all_any HD15.out (by omega)).mono ?_
    rintro e w16 ⟨g16, rfl, HRd, HGd, HD16, HK16⟩
    have HP16 : Hid (Mac w16 p Bp Vp T2 M2 rsG dsG (Lp + 1) (Sp + 1) Xp) := HP15.out.keeps HK16.out (fun j hj e => HPD.out.2 j hj (.inl e))
    have HQ16 : Hid (Mac w16 q Bq Vq Tq M rsG dsG Lq Sq Xq) := HQ15.out.keeps HK16.out (fun j hj e => HQD.out.2 j hj (.inl e))
    have HB16 : Hid (Below w.heap.size w w16) := below_mine HB15.out HK16.out (fun j e => by have e : j = d := e; exact HNd.out j (.inl e))
    have HFd : Hid (¬ Mine p Bp Vp T2 g16) := fun hf => by have := HP15.out.mine_lt hf; have := HGd.out; omega
    clear HP15 HQ15 HD15 HB15 HK16 HGd
    go_wp2_with fail
    refine (all_any HP16.out (by omega)).mono ?_
    rintro e w17 ⟨g17, rfl, HRa, HGa, HP17, HK17⟩
    have HQ17 : Hid (Mac w17 q Bq Vq Tq M rsG dsG Lq Sq Xq) := HQ16.out.keeps HK17.out (fun j hj e => HA12.out.1 j hj (.inl e))
    have HD17 : Hid (Mac w17 d Bd Vd Td M2 rsG dsG 0 0 0) := HD16.out.keeps HK17.out (fun j hj e => HPD.out.1 j hj (.inl e))
    have HB17 : Hid (Below w.heap.size w w17) := below_mine HB16.out HK17.out (fun j e => by have e : j = p := e; exact HNp12.out j (.inl e))
    have HRd17 : Hid (RowT w17 5 g16 (bytesAt M2 8192 16384)) := HRd.out.keeps HK17.out (fun e => HFd.out (.inl e))
    have HSn : Hid (Calls Try.prog 18 #[.slice (some ⟨g16, 0, none⟩) 16384 16384, .slice (some ⟨g17, 0, none⟩) 16384 16384] w17 fun e w' => e = .returned (.bool true) ∧ Below w17.heap.size w17 w') := bookSame_yes HRd17.out HRa.out (bytesAt_length _ _ _) (by decide)
    clear HP16 HQ16 HD16 HB16 HK17 HGa HRd HRa HRd17
    go_wp2_with fail
    refine HSn.out.mono ?_
    rintro e w18 ⟨rfl, hb⟩
    have HP18 : Hid (Mac w18 p Bp Vp T2 M2 rsG dsG (Lp + 1) (Sp + 1) Xp) := HP17.out.below hb
    have HQ18 : Hid (Mac w18 q Bq Vq Tq M rsG dsG Lq Sq Xq) := HQ17.out.below hb
    have HD18 : Hid (Mac w18 d Bd Vd Td M2 rsG dsG 0 0 0) := HD17.out.below hb
    have HB18 : Hid (Below w.heap.size w w18) := HB17.out.trans (hb.mono HB17.out.size)
    clear hb HSn HP17 HQ17 HD17 HB17
    go_wp2_with fail
    refine (fillM_any (a := 8192) (n := 16384) (z := 0) HQ18.out (by omega) (by omega) (by omega) (by omega)).mono ?_
    rintro e w19 ⟨x3, b3, ho, rfl, hk, _, ht⟩
    obtain rfl := off_not ho (by omega)
    obtain ⟨T3, hm, hg⟩ := ht rfl
    rw [bare_fill HZ1.out] at hm
    have HQ19 : Hid (Mac w19 q Bq Vq T3 (fun _ => 0) rsG dsG Lq Sq Xq) := hm
    have HP19 : Hid (Mac w19 p Bp Vp T2 M2 rsG dsG (Lp + 1) (Sp + 1) Xp) := HP18.out.keeps hk HA12.out.2
    have HD19 : Hid (Mac w19 d Bd Vd Td M2 rsG dsG 0 0 0) := HD18.out.keeps hk HQD.out.1
    have HB19 : Hid (Below w.heap.size w w19) := below_mine HB18.out hk (fun j e => HNq.out j (mine_of e))
    have HA19 : Hid (Apt p Bp T2 q Bq Vq T3) := HA12.out.1.grow2 HP18.out hg
    have HB19d : Hid (Apt d Bd Td q Bq Vq T3) := HQD.out.2.grow2 HD18.out hg
    clear ho hk ht hm hg HP18 HQ18 HD18 HB18
    simp only [FaultV]
    go_wp2_with fail
    refine (load_any (a := 12288) (n := 1) HP19.out (by omega) (.inl rfl) (by omega) (by omega)).mono ?_
    rintro e w20 ⟨x4, b4, ho, rfl, hm, hk⟩
    obtain rfl := off_not ho (by omega)
    have hx4 := (ho.2 rfl).1
    subst hx4
    have HQ20 : Hid (Mac w20 q Bq Vq T3 (fun _ => 0) rsG dsG Lq Sq Xq) := HQ19.out.keeps hk (fun j hj e => HA19.out j hj (.inl e))
    have HD20 : Hid (Mac w20 d Bd Vd Td M2 rsG dsG 0 0 0) := HD19.out.keeps hk (fun j hj e => HPD.out.1 j hj (.inl e))
    have HB20 : Hid (Below w.heap.size w w20) := below_mine HB19.out hk (fun j e => by have e : j = p := e; exact HNp12.out j (.inl e))
    clear ho hm hk HP19 HQ19 HD19 HB19
    rw [num_byte, HMz.out]
    simp only [FaultV]
    go_wp2_with fail
    have hb0 : Below w20.heap.size w20 (w20.alloc (Obj.cells #[.int .i64 0, .int .u64 0] 42)) := (Below.refl _ _).alloc (Nat.le_refl _) _
    refine (load_any (a := 12288) (n := 1) (HD20.out.below hb0) (by omega) (.inl rfl) (by omega) (by omega)).mono ?_
    rintro e w21 ⟨x5, b5, ho, rfl, hm, hk⟩
    obtain rfl := off_not ho (by omega)
    have hx5 := (ho.2 rfl).1
    subst hx5
    have hdl := HD20.out.lt
    have HX21 : Hid (BoxF w21 w20.heap.size 0 0) := (BoxF.new w20 0 0).keeps hk (by omega)
    have HQ21 : Hid (Mac w21 q Bq Vq T3 (fun _ => 0) rsG dsG Lq Sq Xq) := (HQ20.out.below hb0).keeps hk (fun j hj e => HB19d.out j hj (.inl e))
    have HB21 : Hid (Below w.heap.size w w21) := below_mine (HB20.out.trans (hb0.mono HB20.out.size)) hk (fun j e => by have e : j = d := e; exact HNd.out j (.inl e))
    clear ho hm hk hb0 HQ20 HD20 HB20
    rw [num_byte, HMz.out]
    simp only [FaultV]
    go_wp2_with fail
    obtain ⟨W22, hW22⟩ : ∃ W22, w21.alloc (Obj.cells #[.int .i64 0, .int .u64 0] 42) = W22 := ⟨_, rfl⟩
    have hb22 : Below w21.heap.size w21 W22 := hW22 ▸ (Below.refl _ _).alloc (Nat.le_refl _) _
    have HX22 : Hid (BoxF W22 w20.heap.size 0 0) := HX21.out.below hb22
    have HY22 : Hid (BoxF W22 w21.heap.size 0 0) := hW22 ▸ BoxF.new w21 0 0
    have HQ22 : Hid (Mac W22 q Bq Vq T3 (fun _ => 0) rsG dsG Lq Sq Xq) := HQ21.out.below hb22
    have HB22 : Hid (Below w.heap.size w W22) := HB21.out.trans (hb22.mono HB21.out.size)
    obtain ⟨f0, _, _, _⟩ := HX22.out.cells
    obtain ⟨y0, _, _, _⟩ := HY22.out.cells
    have HKp : Hid (Calls Try.prog 8 #[.pointer (some ⟨q, 0, none⟩)] W22 fun e w' => e = .returned (.int .i64 0) ∧ w' = W22) := by
      have := kept_any HQ22.out
      rwa [cnt_zero] at this
    rw [hW22]
    clear hW22 hb22
    refine HKp.out.mono ?_
    rintro e w' ⟨rfl, hw⟩
    have hw := hw.symm
    subst hw
    go_wp2_with fail
    go_ret
    exact ⟨rfl, HB22.out⟩
end Go.Proofs.Ytacmdalgdbfehaa
