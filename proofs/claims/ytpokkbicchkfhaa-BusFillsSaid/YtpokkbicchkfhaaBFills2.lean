/- BusFills: the walk. Own work. -/
import Derived.Test.YtpokkbicchkfhaaBFills
import Derived.Deep.DeepCutAuto
import Derived.Deep.CutBlock
namespace Go.Proofs.Ytpokkbicchkfhaa
open Go.RowKit Go.Maps Go.Proofs.Ytpokkbicchkfhaa.Sp
theorem sl_take {w : World} {ao : Option Addr} {cap n : Nat} {zs : List Nat} (h : Sl w (.slice ao zs.length cap) zs) (hn : n ≤ zs.length) : Sl w (.slice ao n cap) (zs.take n) := by
  have hl : (zs.take n).length = n := by rw [List.length_take]; omega
  obtain ⟨ao', cap', e, h1, h2, h3, h4, h5⟩ := h
  cases e
  refine ⟨ao, cap, by rw [hl], by omega, h2, fun z hz => h3 z (List.mem_of_mem_take hz), h4, fun i hi => ?_⟩
  rw [hl] at hi
  obtain ⟨b, o, e, hc⟩ := h5 i (by omega)
  refine ⟨b, o, e, ?_⟩
  rw [hc, List.getD_eq_getElem?_getD, List.getD_eq_getElem?_getD, List.getElem?_take_of_lt hi]
theorem ne0 (y : Nat) : ((y : Int) != 0) = (y != 0) := by
  by_cases h : y = 0
  · simp [h]
  · have h2 : (y : Int) ≠ 0 := by omega
    rw [bne, bne, beq_eq_false_iff_ne.2 h2, beq_eq_false_iff_ne.2 h]
theorem not_grown {m B k g : Nat} {V : Value × Value × Value} {T T' : Nat → Option Nat} (h : ¬ Mine m B V T g) (hg : Grows k T T') (hk : g < k) : ¬ Mine m B V T' g := fun hf => by
  rcases hf with e | (e | ⟨j, hj⟩) | e
  · exact h (.inl e)
  · exact h (.inr (.inl (.inl e)))
  · rcases hg j g hj with h5 | h5
    · exact h (.inr (.inl (.inr ⟨j, h5⟩)))
    · omega
  · exact h (.inr (.inr e))
theorem RowT.thaw {w : World} {t : TypeId} {g : Nat} {L : List Nat} (h : RowT w t g L) (i : Nat) : w.frozen? ⟨g, i, none⟩ = false := by
  simp [World.frozen?, show w.heap[g]? = _ from h]
theorem fillG {w w' : World} {m B : Nat} {V : Value × Value × Value} {T : Nat → Option Nat} {M M' : Nat → Nat} {L S X a n : Nat} {e : Ending} (h : FillPost w m B V T M M' rsG dsG L S X a n e w') (hz : Bare M) (hz' : n = 0 ∨ (8192 ≤ a ∧ a + n ≤ 24576) → Bare M') :
    ∃ (ok : Bool) (why x : Int) (T1 : Nat → Option Nat) (M1 : Nat → Nat) (X1 : Nat), e = .returned (FaultV why x) ∧ ok = decide (n = 0 ∨ (8192 ≤ a ∧ a + n ≤ 24576)) ∧ ((why == 0) && (x == 0)) = ok ∧ (ok = false → why = 30) ∧ X1 ≤ X + 1 ∧ Keeps (fun j => j = m ∨ Foot B T j) w w' ∧ Mac w' m B V T1 M1 rsG dsG L S X1 ∧ Grows w.heap.size T T1 ∧ Bare M1 ∧ M1 = (if ok then M' else M) := by
  obtain ⟨x, b, ho, rfl, hk, h1, h2⟩ := h
  have hb := off_ok ho
  cases b with
  | true =>
    have hd : decide (n = 0 ∨ (8192 ≤ a ∧ a + n ≤ 24576)) = false := by cases hd : decide (n = 0 ∨ (8192 ≤ a ∧ a + n ≤ 24576)) with | false => rfl | true => rw [hd] at hb; cases hb
    exact ⟨false, 30, x, T, M, X + 1, rfl, hd.symm, rfl, fun _ => rfl, Nat.le_refl _, hk, h1 rfl, Grows.refl _ _, hz, rfl⟩
  | false =>
    have hd : decide (n = 0 ∨ (8192 ≤ a ∧ a + n ≤ 24576)) = true := by cases hd : decide (n = 0 ∨ (8192 ≤ a ∧ a + n ≤ 24576)) with | true => rfl | false => rw [hd] at hb; cases hb
    obtain ⟨T1, h3, h4⟩ := h2 rfl
    have hx := (ho.2 rfl).1
    subst hx
    exact ⟨true, 0, 0, T1, M', X, rfl, hd.symm, rfl, fun e => (by cases e), by omega, hk, h3, h4, hz' (of_decide_eq_true hd), rfl⟩
set_option maxRecDepth 100000 in
set_option maxHeartbeats 8000000 in
theorem fills_walk {w : World} {t : Value} {zs : List Nat} {a z : Nat} {n : Int} {v : Value} {ps : List Nat} (ht : Sl w t zs) (hp : Sl w v ps) (ha : a ≤ 18446744073709551615) (hz : z < 256) :
    Calls Try.prog 6 #[t, .int .u64 (a : Int), .int .i64 n, .int .u8 (z : Int), v] w fun e w' => e = .returned (.bool true) ∧ Below w.heap.size w w' := by
  have HG : Hid (∀ W, Below w.heap.size w W → Calls Try.prog 24 #[t] W (GroundPost0 W)) := fun W hW => ground_zero (ht.below hW)
  have HP : Hid (Sl w v ps) := hp
  obtain ⟨ao, cap, rfl, h1, h2, _, _, _⟩ := ht
  obtain ⟨po, pcap, rfl, hp1, hp2, _, _, _⟩ := hp
  unfold maxLen at h2 hp2
  go_enter Try.func6, Try.ntmps6
  go_wp2_with fail
  refine (HG.out _ (Below.refl _ _)).mono ?_
  rintro e w1 ⟨m, B, V, T, M, S, rfl, hS, hb1, hm1, hn1, hbare⟩
  have HB1 : Hid (Below w.heap.size w w1) := hb1
  have HM1 : Hid (Mac w1 m B V T M rsG dsG 0 S 0) := hm1
  have HN1 : Hid (∀ j, Mine m B V T j → w.heap.size ≤ j) := hn1
  have HZ1 : Hid (Bare M) := hbare
  clear HG hb1 hm1 hn1 hbare
  go_wp2_with fail
  refine (bookWithin_any (hi := 20000) (by omega) _).mono ?_
  rintro e w' ⟨N, rfl, hN, hw⟩
  have hw := hw.symm
  subst hw
  go_upto_if 29 with fail
  go_cut [4] (fun y wx => ∃ (q : Nat) (ps' : List Nat), y = .slice po q pcap ∧ q ≤ 20000 ∧ q ≤ pcap ∧ Hid (q = ps'.length) ∧ Hid (Sl w (.slice po q pcap) ps') ∧ wx = w1)
  case first =>
    by_cases hpl : ps.length ≤ 20000
    · go_wp2_with fail
      go_meet
      exact ⟨_, ps, rfl, hpl, hp1, (rfl : _ = _), HP.out, rfl⟩
    · go_wp2_with fail
      go_meet
      exact ⟨20000, ps.take 20000, rfl, by omega, by omega, (by rw [List.length_take]; omega : _ = _), sl_take HP.out (by omega), rfl⟩
  case rest =>
    obtain ⟨q, ps', rfl, hq, hqc, HQ, HPq, hw⟩ := hcut
    have hw := hw.symm
    subst hw
    go_wp2_with fail
    refine (all_any HM1.out (by omega)).mono ?_
    rintro e w2 ⟨g, rfl, HR2, HGg, HM2, HK2⟩
    have HB2 : Hid (Below w.heap.size w w2) := below_mine HB1.out HK2.out (fun j e => by have e : j = m := e; exact HN1.out j (.inl e))
    have HF2 : Hid (¬ Mine m B V T g) := fun hf => by have := HM1.out.mine_lt hf; have := HGg.out; omega
    have HGw : Hid (w.heap.size ≤ g) := Nat.le_trans HB1.out.size HGg.out
    clear HM1 HB1 HK2 HGg
    go_wp2_with fail
    refine (fillM_any HM2.out ha (by omega) hz (by omega)).mono ?_
    rintro e w3 hpost
    obtain ⟨ok, why, x, T1, M1, X1, rfl, hok, hokb, hok2, hX1, hk3, hm3, hg3, hz3, hM1⟩ := fillG hpost HZ1.out (fun h => by
      rcases h with rfl | h
      · rw [List.replicate_zero, putAt_nil]; exact HZ1.out
      · exact bare_put HZ1.out h.1 (by rw [List.length_replicate]; exact h.2))
    have HOk : Hid (ok = decide (N = 0 ∨ (8192 ≤ a ∧ a + N ≤ 24576))) := hok
    have HOb : Hid (((why == 0) && (x == 0)) = ok) := hokb
    have HOw : Hid (ok = false → why = 30) := hok2
    have HM3 : Hid (Mac w3 m B V T1 M1 rsG dsG 0 S X1) := hm3
    have HZ3 : Hid (Bare M1) := hz3
    have HM1 : Hid (M1 = (if ok then putAt M a (List.replicate N z) else M)) := hM1
    have HR3 : Hid (RowT w3 5 g (bytesAt M 8192 16384)) := HR2.out.keeps hk3 (fun e => HF2.out (mine_of e))
    have HB3 : Hid (Below w.heap.size w w3) := below_mine HB2.out hk3 (fun j e => HN1.out j (mine_of e))
    have HN3 : Hid (∀ j, Mine m B V T1 j → w.heap.size ≤ j) := mine_grows HN1.out hg3 HB2.out.size
    have HF3 : Hid (¬ Mine m B V T1 g) := fun hf => by
      rcases hf with e | (e | ⟨j, hj⟩) | e
      · exact HF2.out (.inl e)
      · exact HF2.out (.inr (.inl (.inl e)))
      · rcases hg3 j g hj with h5 | h5
        · exact HF2.out (.inr (.inl (.inr ⟨j, h5⟩)))
        · have := HR2.out.lt; omega
      · exact HF2.out (.inr (.inr e))
    clear hpost hok hokb hok2 hk3 hm3 hg3 hz3 hM1 HR2 HB2 HN1 HF2 HM2 HZ1
    unfold FaultV
    go_upto_region 9 with fail
    obtain ⟨W3, hW3⟩ : ∃ W3, w3.alloc (Obj.cells #[.int .i64 why, .int .u64 x] 33) = W3 := ⟨_, rfl⟩
    have hB3 : Below w3.heap.size w3 W3 := hW3 ▸ (Below.refl _ _).alloc (Nat.le_refl _) _
    obtain ⟨f, hf⟩ : ∃ f, f = w3.heap.size := ⟨_, rfl⟩
    have HX4 : Hid (BoxF W3 f why x) := by rw [← hW3, hf]; exact BoxF.new w3 why x
    have HM4 : Hid (Mac W3 m B V T1 M1 rsG dsG 0 S X1) := HM3.out.below hB3
    have HR4 : Hid (RowT W3 5 g (bytesAt M 8192 16384)) := HR3.out.below hB3
    have HB4 : Hid (Below w.heap.size w W3) := HB3.out.trans (hB3.mono HB3.out.size)
    have HFg : Hid (f ≠ g ∧ w.heap.size ≤ f ∧ ¬ Mine m B V T1 f) := ⟨by have := HR3.out.lt; omega, by have := HB3.out.size; omega, fun hm => by have := HM3.out.mine_lt hm; omega⟩
    rw [hW3, ← hf]
    clear hW3 hB3 hf HR3 HB3 HM3
    go_cut [14] (fun y wx => y = .bool ok ∧ wx = W3)
    case first =>
      by_cases hN0 : N = 0
      · subst hN0
        have hok : ok = true := by rw [HOk.out]; simp
        go_wp2_with fail
        go_meet
        exact ⟨by rw [hok], rfl⟩
      · have HIn : Hid (∀ W, Calls Try.prog 27 #[.int .u64 (a : Int), .int .i64 (N : Int)] W fun e w' => e = .returned (.bool ok) ∧ w' = W) := fun W => by
          have := inside_any ha (n := N) (by omega) W
          rwa [show decide (8192 ≤ a ∧ a + N ≤ 24576) = ok by rw [HOk.out]; exact decide_eq_decide.2 (by omega)] at this
        go_wp2_with fail
        refine (HIn.out _).mono ?_
        rintro e w' ⟨rfl, hw⟩
        have hw := hw.symm
        subst hw
        go_wp2_with fail
        go_meet
        have hb0 : ((N : Int) == 0) = false := by simp; omega
        exact ⟨by rw [hb0]; rfl, rfl⟩
    case rest =>
      obtain ⟨rfl, hw⟩ := hcut
      have hw := hw.symm
      subst hw
      go_upto_region 10 with fail
      go_cut [59] (fun y wx => y = .bool false ∧ wx = W3)
      case first =>
        have HOb' := HOb.out
        have HOw' := HOw.out
        obtain ⟨x0, x1, f0, f1⟩ := HX4.out.cells
        cases ok with
        | true =>
          clear HOw'
          have HOc : Hid (((why == 0) && (x == 0)) = true) := HOb'
          clear HOb'
          go_wp2_with (first | (refine wpList_eql_fault rfl _ _ rfl rfl rfl HOc.out ?_))
          go_meet
          exact ⟨rfl, rfl⟩
        | false =>
          obtain rfl := HOw' rfl
          clear HOw' HOb'
          go_wp2_with (first | (refine wpList_eql_fault rfl _ _ rfl rfl rfl (b := false) rfl ?_))
          go_meet
          exact ⟨rfl, rfl⟩
      case rest =>
        obtain ⟨rfl, hw⟩ := hcut
        have hw := hw.symm
        subst hw
        go_upto_block 0 with fail
        go_cut [15] (fun _ wx => Hid (RowT wx 5 g (bytesAt M1 8192 16384)) ∧ Hid (Keeps (fun j => j = g) W3 wx))
        case first =>
          have HM1' := HM1.out
          have HOk' := HOk.out
          cases ok with
          | false =>
            clear HOk'
            have HR5 : Hid (RowT W3 5 g (bytesAt M1 8192 16384)) := by rw [HM1']; exact HR4.out
            clear HM1'
            go_wp2_with fail
            go_loopw [15] (fun y wr => y = .int .i64 0 ∧ wr = W3) (fun _ _ => 0)
            case atStart => exact ⟨rfl, rfl⟩
            case round =>
              obtain ⟨rfl, hw⟩ := hrel
              have hw := hw.symm
              subst hw
              go_wp2_with fail
              go_meet
              exact ⟨HR5, Keeps.refl _ _⟩
          | true =>
            have hin := of_decide_eq_true HOk'.symm
            clear HOk'
            have HR5 : Hid (M1 = putAt M a (List.replicate N z)) := HM1'
            clear HM1'
            go_wp2_with fail
            go_loopw [15] (fun y wr => ∃ i : Nat, i ≤ N ∧ y = .int .i64 (i : Int) ∧ Hid (RowT wr 5 g (bytesAt (putAt M a ((List.replicate N z).take i)) 8192 16384)) ∧ Hid (Keeps (fun j => j = g) W3 wr)) (fun y _ => match y with | .int _ i => N - i.toNat | _ => 0)
            case atStart => exact ⟨0, by omega, rfl, (by rw [List.take_zero, putAt_nil]; exact HR4.out : RowT _ _ _ _), Keeps.refl _ _⟩
            case round =>
              obtain ⟨i, hi, rfl, HRi, HKi⟩ := hrel
              by_cases hlt : i < N
              · obtain ⟨p, hp⟩ : ∃ p, a + i = p + 8192 := ⟨a + i - 8192, by omega⟩
                have hp2 : p < 16384 := by omega
                have c1 := HRi.out.at p hp2
                have c2 := HRi.out.thaw p
                have hpi : (a : Int) + (i : Int) - 8192 = (p : Int) := by omega
                have HRn : Hid (RowT (wr.setCell ⟨g, p, none⟩ (.int .u8 (z : Int))) 5 g (bytesAt (putAt M a ((List.replicate N z).take (i + 1))) 8192 16384)) := by
                  have := row_put (p := a + i) (z := z) HRi.out (by omega)
                  rw [put_next M a z i _ (by rw [List.length_replicate]; exact hlt) (by rw [List.getD_eq_getElem?_getD, List.getElem?_replicate, if_pos hlt]; rfl), show a + i - 8192 = p by omega] at this
                  exact this
                go_wp2_with fail
                go_roundw
                case rel => exact ⟨i + 1, by omega, by go_num, HRn, HKi.out.trans (Keeps.setCell _ _ _ _) (fun _ _ e => e)⟩
                case measure => simp; omega
              · obtain rfl : N = i := by omega
                go_wp2_with fail
                go_meet
                have hh := HRi.out
                rw [List.take_of_length_le (by rw [List.length_replicate]; exact Nat.le_refl _), ← HR5.out] at hh
                exact ⟨hh, HKi.out⟩
        case rest =>
          obtain ⟨HR5, HK5⟩ := hcut
          have HM5 : Hid (Mac wc m B V T1 M1 rsG dsG 0 S X1) := HM4.out.keeps HK5.out (fun j hj e => by have e : j = g := e; subst e; exact HF3.out hj)
          have HB5 : Hid (Below w.heap.size w wc) := below_mine HB4.out HK5.out (fun j e => by have e : j = g := e; rw [e]; exact HGw.out)
          have HX5 : Hid (BoxF wc f why x) := HX4.out.keeps HK5.out HFg.out.1
          clear HM4 HB4 HX4 HK5 HR4 HM1 HOk HOb HOw
          go_wp2_with fail
          refine (all_any HM5.out (by omega)).mono ?_
          rintro e w6 ⟨g6, rfl, HR6, HG6, HM6, HK6⟩
          have HB6 : Hid (Below w.heap.size w w6) := below_mine HB5.out HK6.out (fun j e => by have e : j = m := e; exact HN3.out j (.inl e))
          have HRw6 : Hid (RowT w6 5 g (bytesAt M1 8192 16384)) := HR5.out.keeps HK6.out (fun e => HF3.out (.inl e))
          have HX6 : Hid (BoxF w6 f why x) := HX5.out.keeps HK6.out (fun e => HFg.out.2.2 (.inl e))
          have HSm : Hid (Calls Try.prog 28 #[.slice (some ⟨g6, 0, none⟩) 16384 16384, .slice (some ⟨g, 0, none⟩) 16384 16384] w6 fun e w' => e = .returned (.bool true) ∧ Below w6.heap.size w6 w') := bookSame_yes HR6.out HRw6.out (bytesAt_length _ _ _) (by decide)
          clear HM5 HB5 HX5 HK6 HR5 HG6
          go_wp2_with fail
          refine HSm.out.mono ?_
          rintro e w7 ⟨rfl, hb7⟩
          have HB7 : Hid (Below w.heap.size w w7) := HB6.out.trans (hb7.mono HB6.out.size)
          have HM7 : Hid (Mac w7 m B V T1 M1 rsG dsG 0 S X1) := HM6.out.below hb7
          have HR7 : Hid (RowT w7 5 g (bytesAt M1 8192 16384)) := HRw6.out.below hb7
          have HX7 : Hid (BoxF w7 f why x) := HX6.out.below hb7
          have HP7 : Hid (Sl w7 (.slice po q pcap) ps') := HPq.out.below HB7.out
          have HPo : Hid (0 < q → ∀ j, (Value.slice po q pcap).ownBlock = some j → j < w.heap.size) := fun h0 j e => by
            obtain ⟨b, o, c', e2, _⟩ := HPq.out.pos (by have := HQ.out; omega)
            injection e2 with e2 _ _
            subst e2
            cases e
            exact sl_own_lt HPq.out (by have := HQ.out; omega)
          clear hb7 HB6 HM6 HRw6 HX6 HSm HR6
          go_wp2_with fail
          refine (writeM_any HM7.out ha (by omega) HQ.out HP7.out (fun h0 j e hm => by have := HPo.out h0 j e; have := HN3.out j hm; omega) (by omega)).mono ?_
          rintro e w8 hpost
          obtain ⟨ok2, why2, x2, T2, M2, X2, rfl, hok, hokb, hok2, hX2, hk8, hm8, hg8, hz8, hM2⟩ := fillG hpost HZ3.out (fun h => by
            rcases h with h | h
            · have := HQ.out
              obtain rfl : ps' = [] := List.eq_nil_of_length_eq_zero (by omega)
              rw [putAt_nil]; exact HZ3.out
            · exact bare_put HZ3.out h.1 (by have := HQ.out; omega))
          have HOk : Hid (ok2 = decide (q = 0 ∨ (8192 ≤ a ∧ a + q ≤ 24576))) := hok
          have HOb : Hid (((why2 == 0) && (x2 == 0)) = ok2) := hokb
          have HM8 : Hid (Mac w8 m B V T2 M2 rsG dsG 0 S X2) := hm8
          have HZ8 : Hid (Bare M2) := hz8
          have HM2 : Hid (M2 = (if ok2 then putAt M1 a ps' else M1)) := hM2
          have HR8 : Hid (RowT w8 5 g (bytesAt M1 8192 16384)) := HR7.out.keeps hk8 (fun e => HF3.out (mine_of e))
          have HX8 : Hid (BoxF w8 f why x) := HX7.out.keeps hk8 (fun e => HFg.out.2.2 (mine_of e))
          have HB8 : Hid (Below w.heap.size w w8) := below_mine HB7.out hk8 (fun j e => HN3.out j (mine_of e))
          have HN8 : Hid (∀ j, Mine m B V T2 j → w.heap.size ≤ j) := mine_grows HN3.out hg8 HB7.out.size
          have HF8 : Hid (¬ Mine m B V T2 g ∧ ¬ Mine m B V T2 f) := ⟨not_grown HF3.out hg8 HR7.out.lt, not_grown HFg.out.2.2 hg8 HX7.out.lt⟩
          clear hpost hok hokb hok2 hk8 hm8 hg8 hz8 hM2 HR7 HX7 HB7 HN3 HF3 HM7 HZ3 HP7
          obtain ⟨x0, x1, f0, f1⟩ := HX8.out.cells
          unfold FaultV
          go_upto_region 19 with fail
          obtain ⟨W9, hW9⟩ : ∃ W9, (w8.setCell ⟨f, 0, none⟩ (.int .i64 why2)).setCell ⟨f, 1, none⟩ (.int .u64 x2) = W9 := ⟨_, rfl⟩
          have hK9 : Keeps (fun j => j = f) w8 W9 := hW9 ▸ Keeps.two w8 f (.int .i64 why2) (.int .u64 x2)
          have HX9 : Hid (BoxF W9 f why2 x2) := hW9 ▸ HX8.out.set why2 x2
          have HM9 : Hid (Mac W9 m B V T2 M2 rsG dsG 0 S X2) := HM8.out.keeps hK9 (fun j hj e => by have e : j = f := e; subst e; exact HF8.out.2 hj)
          have HR9 : Hid (RowT W9 5 g (bytesAt M1 8192 16384)) := HR8.out.keeps hK9 (fun e => HFg.out.1 e.symm)
          have HB9 : Hid (Below w.heap.size w W9) := below_mine HB8.out hK9 (fun j e => by have e : j = f := e; rw [e]; exact HFg.out.2.1)
          rw [hW9]
          clear hW9 hK9 HX8 HM8 HR8 HB8 x0 x1 f0 f1
          go_cut [14] (fun y wx => y = .bool ok2 ∧ wx = W9)
          case first =>
            by_cases hN0 : q = 0
            · subst hN0
              have hok : ok2 = true := by rw [HOk.out]; simp
              go_wp2_with fail
              go_meet
              exact ⟨by rw [hok], rfl⟩
            · have HIn : Hid (∀ W, Calls Try.prog 27 #[.int .u64 (a : Int), .int .i64 (q : Int)] W fun e w' => e = .returned (.bool ok2) ∧ w' = W) := fun W => by
                have := inside_any ha (n := q) (by omega) W
                rwa [show decide (8192 ≤ a ∧ a + q ≤ 24576) = ok2 by rw [HOk.out]; exact decide_eq_decide.2 (by omega)] at this
              go_wp2_with fail
              refine (HIn.out _).mono ?_
              rintro e w' ⟨rfl, hw⟩
              have hw := hw.symm
              subst hw
              go_wp2_with fail
              go_meet
              have hb0 : ((q : Int) == 0) = false := by simp; omega
              exact ⟨by rw [hb0]; rfl, rfl⟩
          case rest =>
            obtain ⟨rfl, hw⟩ := hcut
            have hw := hw.symm
            subst hw
            go_upto_region 20 with fail
            go_cut [98] (fun y wx => y = .bool false ∧ wx = W9)
            case first =>
              obtain ⟨x0, x1, f0, f1⟩ := HX9.out.cells
              go_wp2_with (first | (refine wpList_eql_fault rfl _ _ rfl rfl rfl HOb.out ?_))
              go_meet
              exact ⟨by cases ok2 <;> rfl, rfl⟩
            case rest =>
              obtain ⟨rfl, hw⟩ := hcut
              have hw := hw.symm
              subst hw
              go_upto_block 2 with fail
              go_cut [16] (fun _ wx => Hid (RowT wx 5 g (bytesAt M2 8192 16384)) ∧ Hid (Keeps (fun j => j = g) W9 wx))
              case first =>
                have HM1' := HM2.out
                have HOk' := HOk.out
                cases ok2 with
                | false =>
                  clear HOk'
                  have HR5 : Hid (RowT W9 5 g (bytesAt M2 8192 16384)) := by rw [HM1']; exact HR9.out
                  clear HM1'
                  go_wp2_with fail
                  go_loopw [16] (fun y wr => y = .int .i64 0 ∧ wr = W9) (fun _ _ => 0)
                  case atStart => exact ⟨rfl, rfl⟩
                  case round =>
                    obtain ⟨rfl, hw⟩ := hrel
                    have hw := hw.symm
                    subst hw
                    go_wp2_with fail
                    go_meet
                    exact ⟨HR5, Keeps.refl _ _⟩
                | true =>
                  have hin := of_decide_eq_true HOk'.symm
                  clear HOk'
                  have HR5 : Hid (M2 = putAt M1 a ps') := HM1'
                  clear HM1'
                  go_wp2_with fail
                  go_loopw [16] (fun y wr => ∃ i : Nat, i ≤ q ∧ y = .int .i64 (i : Int) ∧ Hid (RowT wr 5 g (bytesAt (putAt M1 a (ps'.take i)) 8192 16384)) ∧ Hid (Keeps (fun j => j = g) W9 wr)) (fun y _ => match y with | .int _ i => q - i.toNat | _ => 0)
                  case atStart => exact ⟨0, by omega, rfl, (by rw [List.take_zero, putAt_nil]; exact HR9.out : RowT _ _ _ _), Keeps.refl _ _⟩
                  case round =>
                    obtain ⟨i, hi, rfl, HRi, HKi⟩ := hrel
                    by_cases hlt : i < q
                    · obtain ⟨p, hp⟩ : ∃ p, a + i = p + 8192 := ⟨a + i - 8192, by omega⟩
                      have hp2 : p < 16384 := by omega
                      have c1 := HRi.out.at p hp2
                      have c2 := HRi.out.thaw p
                      have hpi : (a : Int) + (i : Int) - 8192 = (p : Int) := by omega
                      have hbr : Below w.heap.size w wr := below_mine HB9.out HKi.out (fun j e => by have e : j = g := e; rw [e]; exact HGw.out)
                      obtain ⟨po', pc', e', _, _, hy, _, h5⟩ := HPq.out.below hbr
                      injection e' with e1 e2 e3
                      obtain ⟨b, o, e4, hc⟩ := h5 i (by have := HQ.out; omega)
                      rw [← e1] at e4
                      subst e4
                      obtain ⟨y, hyy⟩ : ∃ y, y = ps'.getD i 0 := ⟨_, rfl⟩
                      have HRn : Hid (RowT (wr.setCell ⟨g, p, none⟩ (.int .u8 (y : Int))) 5 g (bytesAt (putAt M1 a (ps'.take (i + 1))) 8192 16384)) := by
                        have := row_put (p := a + i) (z := y) HRi.out (by omega)
                        rw [put_next M1 a y i _ (by have := HQ.out; omega) hyy, show a + i - 8192 = p by omega] at this
                        exact this
                      rw [← hyy] at hc
                      clear e1 e2 e3 hbr h5 hy hyy
                      go_wp2_with fail
                      go_roundw
                      case rel => exact ⟨i + 1, by omega, by go_num, HRn, HKi.out.trans (Keeps.setCell _ _ _ _) (fun _ _ e => e)⟩
                      case measure => simp; omega
                    · obtain rfl : q = i := by omega
                      go_wp2_with fail
                      go_meet
                      have hh := HRi.out
                      rw [List.take_of_length_le (Nat.le_of_eq HQ.out.symm), ← HR5.out] at hh
                      exact ⟨hh, HKi.out⟩
              case rest =>
                obtain ⟨HR10, HK10⟩ := hcut
                have HM10 : Hid (Mac wc m B V T2 M2 rsG dsG 0 S X2) := HM9.out.keeps HK10.out (fun j hj e => by have e : j = g := e; subst e; exact HF8.out.1 hj)
                have HB10 : Hid (Below w.heap.size w wc) := below_mine HB9.out HK10.out (fun j e => by have e : j = g := e; rw [e]; exact HGw.out)
                clear HM9 HB9 HX9 HR9 HK10 HM2 HOk HOb
                go_wp2_with fail
                go_loopw [17, 18] (fun y x wr => ∃ i : Nat, i ≤ 4 ∧ y = .int .i64 (keptN M2 i : Nat) ∧ x = .int .i64 (i : Int) ∧ wr = wc) (fun _ x _ => match x with | .int _ i => 4 - i.toNat | _ => 0)
                case atStart => exact ⟨0, by omega, rfl, rfl, rfl⟩
                case round =>
                  obtain ⟨i, hi, rfl, rfl, hw⟩ := hrel
                  have hw := hw.symm
                  subst hw
                  have hkl := keptN_le M2 i
                  by_cases hlt : i < 4
                  · obtain ⟨K0, hK0⟩ : ∃ K0, K0 = keptN M2 i := ⟨_, rfl⟩
                    have HK0 : Hid (K0 = keptN M2 i) := hK0
                    rw [← hK0] at hkl ⊢
                    clear hK0
                    go_wp2_with fail
                    go_loopw [19, 20] (fun y x wr => ∃ (j : Nat) (b : Bool), j ≤ 4096 ∧ y = .bool b ∧ Hid (b = someTo M2 ((2 + i) * 4096) j) ∧ x = .int .i64 (j : Int) ∧ wr = wc) (fun _ x _ => match x with | .int _ j => 4096 - j.toNat | _ => 0)
                    case atStart => exact ⟨0, false, by omega, rfl, (rfl : _ = _), rfl, rfl⟩
                    case round =>
                      obtain ⟨j, b, hj, rfl, HBj, rfl, hw⟩ := hrel
                      have hw := hw.symm
                      subst hw
                      by_cases hlt2 : j < 4096
                      · obtain ⟨p, hp⟩ : ∃ p, p = 4096 * i + j := ⟨_, rfl⟩
                        have c1 := HR10.out.at p (by omega)
                        have hpi : 4096 * (i : Int) + (j : Int) = (p : Int) := by omega
                        obtain ⟨y, hy⟩ : ∃ y, y = M2 (8192 + p) := ⟨_, rfl⟩
                        have HNx : Hid ((b || (y != 0)) = someTo M2 ((2 + i) * 4096) (j + 1)) := by
                          show _ = _
                          rw [someTo_succ, ← HBj.out, hy, show (2 + i) * 4096 + j = 8192 + p by omega]
                        rw [← hy] at c1
                        clear hy hp
                        cases b with
                        | true =>
                          go_wp2_with fail
                          go_roundw
                          case rel => exact ⟨j + 1, true, by omega, rfl, HNx.out, by go_num, trivial⟩
                          case measure => simp; omega
                        | false =>
                          go_wp2_with fail
                          go_roundw
                          case rel => exact ⟨j + 1, y != 0, by omega, by rw [ne0], (by have := HNx.out; rw [Bool.false_or] at this; exact this : _ = _), by go_num, trivial⟩
                          case measure => simp; omega
                      · obtain rfl : j = 4096 := by omega
                        have HBn : Hid (b = nz M2 (2 + i)) := by show _ = _; rw [HBj.out, someTo_page]
                        have HKn : Hid (keptN M2 (i + 1) = K0 + (if b then 1 else 0)) := by show _ = _; rw [HBn.out, HK0.out]; rfl
                        cases b with
                        | true =>
                          go_wp2_with fail
                          go_roundw
                          case rel => exact ⟨i + 1, by omega, by rw [HKn.out]; go_num, by go_num, trivial⟩
                          case measure => simp; omega
                        | false =>
                          go_wp2_with fail
                          go_roundw
                          case rel => exact ⟨i + 1, by omega, by rw [HKn.out]; go_num, by go_num, trivial⟩
                          case measure => simp; omega
                  · obtain rfl : i = 4 := by omega
                    go_wp2_with fail
                    refine (all_any HM10.out (by omega)).mono ?_
                    rintro e w11 ⟨g11, rfl, HR11, HG11, HM11, HK11⟩
                    have HB11 : Hid (Below w.heap.size w w11) := below_mine HB10.out HK11.out (fun j e => by have e : j = m := e; exact HN8.out j (.inl e))
                    have HRw : Hid (RowT w11 5 g (bytesAt M2 8192 16384)) := HR10.out.keeps HK11.out (fun e => HF8.out.1 (.inl e))
                    have HSm : Hid (Calls Try.prog 28 #[.slice (some ⟨g11, 0, none⟩) 16384 16384, .slice (some ⟨g, 0, none⟩) 16384 16384] w11 fun e w' => e = .returned (.bool true) ∧ Below w11.heap.size w11 w') := bookSame_yes HR11.out HRw.out (bytesAt_length _ _ _) (by decide)
                    clear HM10 HB10 HR10 HK11 HG11
                    go_wp2_with fail
                    refine HSm.out.mono ?_
                    rintro e w12 ⟨rfl, hb12⟩
                    have HB12 : Hid (Below w.heap.size w w12) := HB11.out.trans (hb12.mono HB11.out.size)
                    have HM12 : Hid (Mac w12 m B V T2 M2 rsG dsG 0 S X2) := HM11.out.below hb12
                    have HKp : Hid (Calls Try.prog 12 #[.pointer (some ⟨m, 0, none⟩)] w12 fun e w' => e = .returned (.int .i64 (keptN M2 4 : Nat)) ∧ w' = w12) := by
                      have := kept_any HM12.out
                      rwa [cnt_bare HZ8.out] at this
                    clear hb12 HSm HM11 HB11 HRw HR11
                    go_wp2_with fail
                    refine HKp.out.mono ?_
                    rintro e w' ⟨rfl, hw⟩
                    have hw := hw.symm
                    subst hw
                    go_wp2_with fail
                    go_ret
                    exact ⟨rfl, HB12.out⟩
end Go.Proofs.Ytpokkbicchkfhaa
