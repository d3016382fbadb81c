/- BusStores: the walk. Own work. -/
import Derived.Test.YtpokkbicchkfhaaBStores
namespace Go.Proofs.Ytpokkbicchkfhaa
open Go.RowKit Go.Maps Go.Proofs.Ytpokkbicchkfhaa.Sp
theorem mine_of {m B j : Nat} {V : Value × Value × Value} {T : Nat → Option Nat} (h : j = m ∨ Foot B T j) : Mine m B V T j := h.elim (fun e => .inl e) (fun e => .inr (.inl e))
theorem RowT.lt {w : World} {t : TypeId} {g : Nat} {L : List Nat} (h : RowT w t g L) : g < w.heap.size := (Array.getElem?_eq_some_iff.1 h).1
theorem RowT.keeps {Z : Nat → Prop} {w w' : World} {t : TypeId} {g : Nat} {L : List Nat} (h : RowT w t g L) (hk : Keeps Z w w') (hn : ¬ Z g) : RowT w' t g L := (hk.block g h.lt hn).trans h
theorem RowT.below {w w' : World} {t : TypeId} {g : Nat} {L : List Nat} (h : RowT w t g L) (hb : Below w.heap.size w w') : RowT w' t g L := (hb.block g h.lt).trans h
theorem bytesAt_getD (M : Nat → Nat) (a n i : Nat) (h : i < n) : (bytesAt M a n).getD i 0 = M (a + i) := by rw [List.getD_eq_getElem?_getD, bytesAt_get _ _ _ _ h]; rfl
theorem RowT.at {w : World} {t : TypeId} {g : Nat} {M : Nat → Nat} {a n : Nat} (h : RowT w t g (bytesAt M a n)) (i : Nat) (hi : i < n) : w.cell? ⟨g, i, none⟩ = some (.int .u8 ((M (a + i) : Nat) : Int)) := by
  rw [cell_of_row w g i _ _ _ h, List.getElem?_toArray, bvs_get _ _ (by rw [bytesAt_length]; exact hi), bytesAt_getD _ _ _ _ hi]
set_option maxRecDepth 100000 in
set_option maxHeartbeats 8000000 in
theorem stores_walk {w : World} {t : Value} {zs : List Nat} {a v : Nat} {n : Int} (ht : Sl w t zs) (ha : a ≤ 18446744073709551615) (hv : v ≤ 18446744073709551615) :
    Calls Try.prog 5 #[t, .int .u64 (a : Int), .int .i64 n, .int .u64 (v : Int)] w fun e w' => e = .returned (.bool true) ∧ Below w.heap.size w w' := by
  have HG : Hid (∀ W, Below w.heap.size w W → Calls Try.prog 24 #[t] W (GroundPost W)) := fun W hW => ground_any (ht.below hW)
  obtain ⟨ao, cap, rfl, h1, h2, _, _, _⟩ := ht
  go_enter Try.func5, Try.ntmps5
  go_wp2_with fail
  refine (HG.out _ (Below.refl _ _)).mono ?_
  rintro e w1 ⟨m, B, V, T, M, S, rfl, hS, hb1, hm1, hn1⟩
  have HB1 : Hid (Below w.heap.size w w1) := hb1
  have HM1 : Hid (Mac w1 m B V T M rsG dsG 0 S 0) := hm1
  have HN1 : Hid (∀ j, Mine m B V T j → w.heap.size ≤ j) := hn1
  clear HG hb1 hm1 hn1
  go_wp2_with fail
  refine (wide_any _).mono ?_
  rintro e w2 ⟨k, rfl, HWk, HB2⟩
  have HM2 : Hid (Mac w2 m B V T M rsG dsG 0 S 0) := HM1.out.below HB2.out
  have HBw2 : Hid (Below w.heap.size w w2) := HB1.out.trans (HB2.out.mono HB1.out.size)
  have hk8 : k ≤ 8 := by rcases HWk.out with h | h | h | h <;> omega
  have hk1 : 1 ≤ k := by rcases HWk.out with h | h | h | h <;> omega
  clear HM1 HB1 HB2
  go_wp2_with fail
  refine (all_any HM2.out (by omega)).mono ?_
  rintro e w3 ⟨g1, rfl, HR3, HG1, HM3, HK3⟩
  have HBw3 : Hid (Below w.heap.size w w3) := below_mine HBw2.out HK3.out (fun j e => by have e : j = m := e; exact HN1.out j (.inl e))
  have HF1 : Hid (¬ Mine m B V T g1) := fun hf => by have := HM2.out.mine_lt hf; have := HG1.out; omega
  clear HK3 HM2 HBw2 HG1
  go_wp2_with fail
  refine (store_any HM3.out ha HWk.out hv (by omega) (by omega)).mono ?_
  rintro e w4 ⟨x, b, ho, rfl, hk4, ho1, ho2⟩
  have HOff : Hid (OffR (rsG ++ dsG) a k x b) := ho
  have HBw4 : Hid (Below w.heap.size w w4) := below_mine HBw3.out hk4 (fun j e => HN1.out j (mine_of e))
  have HR4 : Hid (RowT w4 5 g1 (bytesAt M 8192 16384)) := HR3.out.keeps hk4 (fun e => HF1.out (mine_of e))
  have HSz3 : Hid (w.heap.size ≤ w3.heap.size) := HBw3.out.size
  have HLt3 : Hid (g1 < w3.heap.size) := HR3.out.lt
  clear ho HBw3 HR3 hk4
  unfold FaultV
  cases b with
  | true =>
    have HM4 : Hid (Mac w4 m B V T M rsG dsG 0 S 1) := ho1 rfl
    clear ho1 ho2
    simp only [if_true]
    go_wp2_with fail
    obtain ⟨W5, hW5⟩ : ∃ W5, w4.alloc (Obj.cells #[.int .i64 30, .int .u64 x] 33) = W5 := ⟨_, rfl⟩
    have hB5 : Below w4.heap.size w4 W5 := hW5 ▸ (Below.refl _ _).alloc (Nat.le_refl _) _
    have HX5 : Hid (BoxF W5 w4.heap.size 30 x) := hW5 ▸ BoxF.new w4 30 x
    have HM5 : Hid (Mac W5 m B V T M rsG dsG 0 S 1) := HM4.out.below hB5
    have HR5 : Hid (RowT W5 5 g1 (bytesAt M 8192 16384)) := HR4.out.below hB5
    have HBw5 : Hid (Below w.heap.size w W5) := HBw4.out.trans (hB5.mono HBw4.out.size)
    rw [hW5]
    obtain ⟨f, hf⟩ : ∃ f, f = w4.heap.size := ⟨_, rfl⟩
    have HMf : Hid (m ≠ f) := by have := HM4.out.lt; exact (by omega : m ≠ f)
    rw [← hf] at HX5 ⊢
    clear hW5 hB5 HBw4 HR4 HM4 hf
    refine (all_any HM5.out (by omega)).mono ?_
    rintro e w6 ⟨g2, rfl, HR6, HG2, HM6, HK6⟩
    have HBw6 : Hid (Below w.heap.size w w6) := below_mine HBw5.out HK6.out (fun j e => by have e : j = m := e; exact HN1.out j (.inl e))
    have HR16 : Hid (RowT w6 5 g1 (bytesAt M 8192 16384)) := HR5.out.keeps HK6.out (fun e => HF1.out (.inl e))
    have HX6 : Hid (BoxF w6 f 30 x) := HX5.out.keeps HK6.out (fun e => HMf.out e.symm)
    clear HM5 HR5 HBw5 HK6 HG2 HX5 HMf HF1 HN1
    obtain ⟨i, hi, hx, hx2, hx3, hx4⟩ := HOff.out.1 rfl
    rw [on_g] at hx3
    have hx4 : ∀ j : Nat, j < i → 8192 ≤ a + j ∧ a + j < 24576 := fun j hj => by have := (on_g _).1 (hx4 j hj); omega
    have HX4 : Hid (∀ j : Nat, j < i → 8192 ≤ a + j ∧ a + j < 24576) := hx4
    obtain ⟨p, hp⟩ : ∃ p : Nat, p = a + i := ⟨_, rfl⟩
    have hxp : x = (p : Int) := by omega
    subst hxp
    have HIn : Hid (∀ W, Calls Try.prog 27 #[.int .u64 (a : Int), .int .i64 (k : Int)] W fun e w' => e = .returned (.bool false) ∧ w' = W) := fun W => by
      have := inside_any ha (n := k) (by omega) W
      rwa [decide_eq_false (by omega)] at this
    have HIn2 : Hid (∀ W, Calls Try.prog 27 #[.int .u64 (p : Int), .int .i64 1] W fun e w' => e = .returned (.bool false) ∧ w' = W) := fun W => by
      have := inside_any (a := p) (n := 1) (by omega) (by omega) W
      rwa [decide_eq_false (by omega)] at this
    have hpa : a ≤ p := by omega
    have hpk : p - a < k := by omega
    have hpm : p ≤ 18446744073709551615 := by omega
    have HI : Hid (p = a + i) := hp
    clear hp hx hx2 hx3 hx4 hi HOff
    obtain ⟨x0, x1, f0, f1⟩ := HX6.out.cells
    go_wp2_with fail
    refine (HIn.out _).mono ?_
    rintro e w' ⟨rfl, hw⟩
    have hw := hw.symm
    subst hw
    clear HIn
    go_wp2_with fail
    refine (HIn2.out _).mono ?_
    rintro e w' ⟨rfl, hw⟩
    have hw := hw.symm
    subst hw
    clear HIn2
    go_wp2_with fail
    go_loopw [14] (fun y wr => ∃ q : Nat, a ≤ q ∧ q ≤ p ∧ y = .int .u64 (q : Int) ∧ wr = w6) (fun y _ => match y with | .int _ z => p - z.toNat | _ => 0)
    case atStart => exact ⟨a, by omega, hpa, rfl, rfl⟩
    case round =>
      obtain ⟨q, hq, hqp, rfl, hw⟩ := hrel
      have hw := hw.symm
      subst hw
      by_cases hlt : q < p
      · have hne : (q : Int) ≠ (p : Int) := by omega
        have HIn : Hid (∀ W, Calls Try.prog 27 #[.int .u64 (q : Int), .int .i64 1] W fun e w' => e = .returned (.bool true) ∧ w' = W) := fun W => by
          have := inside_any (a := q) (n := 1) (by omega) (by omega) W
          have h1 := HX4.out (q - a) (by have := HI.out; omega)
          rwa [decide_eq_true (by omega)] at this
        go_wp2_with fail
        refine (HIn.out _).mono ?_
        rintro e w' ⟨rfl, hw⟩
        have hw := hw.symm
        subst hw
        clear HIn
        go_wp2_with fail
        go_roundw
        case rel => exact ⟨q + 1, by omega, by omega, by go_num, by first | rfl | trivial⟩
        case measure => simp; omega
      · obtain rfl : q = p := by omega
        have HSm : Hid (Calls Try.prog 28 #[.slice (some ⟨g1, 0, none⟩) 16384 16384, .slice (some ⟨g2, 0, none⟩) 16384 16384] w6 fun e w' => e = .returned (.bool true) ∧ Below w6.heap.size w6 w') := bookSame_yes HR16.out HR6.out (bytesAt_length _ _ _) (by decide)
        go_wp2_with fail
        refine HSm.out.mono ?_
        rintro e w7 ⟨rfl, hb7⟩
        have HB7 : Hid (Below w6.heap.size w6 w7) := hb7
        have HM7 : Hid (Mac w7 m B V T M rsG dsG 0 S 1) := HM6.out.below hb7
        clear hb7 HSm
        go_wp2_with fail
        refine (strays_any HM7.out).mono ?_
        rintro e w' ⟨rfl, hw⟩
        have hw := hw.symm
        subst hw
        go_wp2_with fail
        go_ret
        exact ⟨rfl, HBw6.out.trans (HB7.out.mono HBw6.out.size)⟩
  | false =>
    obtain ⟨T', hm4, hgr⟩ := ho2 rfl
    have HM4 : Hid (Mac w4 m B V T' (putAt M a ((Pl.le 8 v).take k)) rsG dsG 0 (S + 1) 0) := hm4
    have HN1' : Hid (∀ j, Mine m B V T' j → w.heap.size ≤ j) := mine_grows HN1.out hgr HSz3.out
    have HF1' : Hid (¬ Mine m B V T' g1) := fun hf => by
      rcases hf with e | (e | ⟨j, hj⟩) | e
      · exact HF1.out (.inl e)
      · exact HF1.out (.inr (.inl (.inl e)))
      · rcases hgr j g1 hj with h5 | h5
        · exact HF1.out (.inr (.inl (.inr ⟨j, h5⟩)))
        · have := HLt3.out; omega
      · exact HF1.out (.inr (.inr e))
    obtain ⟨hx, hon⟩ := HOff.out.2 rfl
    have ha1 : 8192 ≤ a := by have := (on_g _).1 (hon 0 (by omega)); omega
    have ha2 : a + k ≤ 24576 := by have := (on_g _).1 (hon (k - 1) (by omega)); omega
    subst hx
    clear ho1 ho2 hm4 hgr HF1 HN1 HOff hon HSz3 HLt3
    simp only [Bool.false_eq_true, if_false]
    go_wp2_with fail
    obtain ⟨W5, hW5⟩ : ∃ W5, w4.alloc (Obj.cells #[.int .i64 0, .int .u64 0] 33) = W5 := ⟨_, rfl⟩
    have hB5 : Below w4.heap.size w4 W5 := hW5 ▸ (Below.refl _ _).alloc (Nat.le_refl _) _
    have HX5 : Hid (BoxF W5 w4.heap.size 0 0) := hW5 ▸ BoxF.new w4 0 0
    obtain ⟨M', hM'⟩ : ∃ M', M' = putAt M a ((Pl.le 8 v).take k) := ⟨_, rfl⟩
    have HM' : Hid (M' = putAt M a ((Pl.le 8 v).take k)) := hM'
    rw [← hM'] at HM4
    clear hM'
    have HM5 : Hid (Mac W5 m B V T' M' rsG dsG 0 (S + 1) 0) := HM4.out.below hB5
    have HR5 : Hid (RowT W5 5 g1 (bytesAt M 8192 16384)) := HR4.out.below hB5
    have HBw5 : Hid (Below w.heap.size w W5) := HBw4.out.trans (hB5.mono HBw4.out.size)
    have HMf : Hid (m ≠ w4.heap.size) := Nat.ne_of_lt HM4.out.lt
    rw [hW5]
    obtain ⟨f, hf⟩ : ∃ f, f = w4.heap.size := ⟨_, rfl⟩
    rw [← hf] at HX5 HMf ⊢
    clear hW5 hB5 HBw4 HR4 HM4 hf
    refine (all_any HM5.out (by omega)).mono ?_
    rintro e w6 ⟨g2, rfl, HR6, HG2, HM6, HK6⟩
    have HBw6 : Hid (Below w.heap.size w w6) := below_mine HBw5.out HK6.out (fun j e => by have e : j = m := e; exact HN1'.out j (.inl e))
    have HR16 : Hid (RowT w6 5 g1 (bytesAt M 8192 16384)) := HR5.out.keeps HK6.out (fun e => HF1'.out (.inl e))
    have HX6 : Hid (BoxF w6 f 0 0) := HX5.out.keeps HK6.out (fun e => HMf.out e.symm)
    have HF2 : Hid (g2 ≠ m) := by have := HM5.out.lt; have := HG2.out; exact (by omega : g2 ≠ m)
    have HF1 : Hid (g1 ≠ m) := fun e => HF1'.out (.inl e)
    have HFm : Hid (w.heap.size ≤ m) := HN1'.out m (.inl rfl)
    clear HM5 HR5 HBw5 HK6 HG2 HX5 HF1' HN1'
    have HSmall : Hid (∀ p, M' p < 256) := HM6.out.held.2.2.2.2.1
    have HIn : Hid (∀ W, Calls Try.prog 27 #[.int .u64 (a : Int), .int .i64 (k : Int)] W fun e w' => e = .returned (.bool true) ∧ w' = W) := fun W => by
      have := inside_any ha (n := k) (by omega) W
      rwa [decide_eq_true (by omega)] at this
    go_wp2_with fail
    refine (HIn.out _).mono ?_
    rintro e w' ⟨rfl, hw⟩
    have hw := hw.symm
    subst hw
    clear HIn
    go_wp2_with fail
    go_loopw [15] (fun y wr => ∃ i l : Nat, i ≤ 16384 ∧ l ≤ i ∧ y = .int .i64 (i : Int) ∧ Hid (Mac wr m B V T' M' rsG dsG l (S + 1) 0) ∧ Hid (RowT wr 5 g1 (bytesAt M 8192 16384)) ∧ Hid (RowT wr 5 g2 (bytesAt M' 8192 16384)) ∧ Hid (BoxF wr f 0 0) ∧ Hid (Below w.heap.size w wr)) (fun y _ => match y with | .int _ z => 16384 - z.toNat | _ => 0)
    case atStart => exact ⟨0, 0, by omega, by omega, rfl, HM6.out, HR16.out, HR6.out, HX6.out, HBw6.out⟩
    case round =>
      clear HM6 HR16 HR6 HX6 HBw6
      obtain ⟨i, l, hi, hl, rfl, HM6, HR16, HR6, HX6, HBw6⟩ := hrel
      by_cases hlt : i < 16384
      · have c1 := HR16.out.at i hlt
        have c2 := HR6.out.at i hlt
        by_cases hin : a ≤ 8192 + i ∧ 8192 + i < a + k
        · obtain ⟨d, hd⟩ : ∃ d : Nat, 8192 + i = a + d := ⟨8192 + i - a, by omega⟩
          have hdk : d < k := by omega
          have HZ : Hid ((v : Int) / 2 ^ (8 * d) % 256 = ((M' (8192 + i) : Nat) : Int)) := by
            have e : M' (8192 + i) = v / 2 ^ (8 * d) % 256 := by rw [HM'.out, put_in M hk8 hin.1 hin.2, show 8192 + i - a = d by omega, show (256 : Nat) ^ d = 2 ^ (8 * d) by rw [show (256 : Nat) = 2 ^ 8 from rfl, ← Nat.pow_mul]]
            show _ = _
            rw [e]
            push_cast
            rfl
          have hz : M' (8192 + i) < 256 := HSmall.out _
          have HLd : Hid (Calls Try.prog 10 #[.pointer (some ⟨m, 0, none⟩), .int .u64 (8192 + (i : Int)), .int .i64 1] wr fun e w' => e = .returned (.tuple #[.int .u64 ((M' (8192 + i) : Nat) : Int), .agg #[.int .i64 0, .int .u64 0]]) ∧ Hid (Mac w' m B V T' M' rsG dsG (l + 1) (S + 1) 0) ∧ Hid (Keeps (fun j => j = m) wr w')) := by
            rw [show (8192 + (i : Int)) = ((8192 + i : Nat) : Int) by omega]
            refine (load_any (a := 8192 + i) (n := 1) HM6.out (by omega) (.inl rfl) (by omega) (by omega)).mono ?_
            rintro e w' ⟨x, b, ho, rfl, h3, hk⟩
            obtain rfl := off_yesG ho (by omega) (by omega)
            refine ⟨?_, h3, hk⟩
            rw [(ho.2 rfl).1]
            simp only [Bool.false_eq_true, if_false, num_one _ _ (HSmall.out _)]
            rfl
          generalize M' (8192 + i) = z at HZ HLd c2 hz
          go_wp2_with fail
          rw [HZ.out]
          refine HLd.out.mono ?_
          rintro e w7 ⟨rfl, HM7, HK7⟩
          have HR17 : Hid (RowT w7 5 g1 (bytesAt M 8192 16384)) := HR16.out.keeps HK7.out HF1.out
          have HR7 : Hid (RowT w7 5 g2 (bytesAt M' 8192 16384)) := HR6.out.keeps HK7.out HF2.out
          have HX7 : Hid (BoxF w7 f 0 0) := HX6.out.keeps HK7.out (fun e => HMf.out e.symm)
          have HBw7 : Hid (Below w.heap.size w w7) := below_mine HBw6.out HK7.out (fun j e => by have e : j = m := e; rw [e]; exact HFm.out)
          have c3 := (World.cell?_of_block (w := wr) (a := ⟨g2, i, none⟩) (HK7.out.block g2 HR6.out.lt HF2.out)).trans c2
          have c2' := fun X => U64.cell_alloc' X c3
          clear HLd HK7 c1 c2 c3
          go_wp2_with fail
          have hb := (Below.refl w7.heap.size w7).alloc (Nat.le_refl _) (Obj.cells #[.int .i64 0, .int .u64 0] 33)
          go_roundw
          all_goals first | exact ⟨i + 1, l + 1, by omega, by omega, by go_num, HM7.out.below hb, HR17.out.below hb, HR7.out.below hb, HX7.out.below hb, HBw7.out.trans (hb.mono HBw7.out.size)⟩ | (simp; omega)
        · have HO : Hid (M' (8192 + i) = M (8192 + i)) := HM'.out ▸ put_out M hk8 (by omega)
          rw [HO.out] at c2
          generalize M (8192 + i) = z at c1 c2
          go_wp2_with fail
          all_goals go_roundw
          all_goals first | exact ⟨i + 1, l, by omega, by omega, by go_num, HM6, HR16, HR6, HX6, HBw6⟩ | (simp; omega)
      · obtain rfl : i = 16384 := by omega
        have HLd : Hid (Calls Try.prog 10 #[.pointer (some ⟨m, 0, none⟩), .int .u64 (a : Int), .int .i64 (k : Int)] wr fun e w' => e = .returned (.tuple #[.int .u64 ((v % 256 ^ k : Nat) : Int), .agg #[.int .i64 0, .int .u64 0]]) ∧ Hid (Keeps (fun j => j = m) wr w')) := by
          refine (load_any HM6.out ha HWk.out (by omega) (by omega)).mono ?_
          rintro e w' ⟨x, b, ho, rfl, h3, hk⟩
          obtain rfl := off_yesG ho (by omega) (by omega)
          refine ⟨?_, hk⟩
          rw [(ho.2 rfl).1]
          simp only [Bool.false_eq_true, if_false, HM'.out, num_put M HWk.out]
          rfl
        have HWk' := HWk.out
        clear HM6 HR16 HR6 HSmall HM' HF1 HF2
        rcases HWk' with rfl | rfl | rfl | rfl
        · go_wp2_with fail
          refine HLd.out.mono ?_
          rintro e w7 ⟨rfl, HK7⟩
          have HX7 : Hid (BoxF w7 f 0 0) := HX6.out.keeps HK7.out (fun e => HMf.out e.symm)
          have HBw7 : Hid (Below w.heap.size w w7) := below_mine HBw6.out HK7.out (fun j e => by have e : j = m := e; rw [e]; exact HFm.out)
          obtain ⟨x0, x1, _, _⟩ := HX7.out.cells
          have y0 := fun X => U64.cell_alloc' X x0
          have y1 := fun X => U64.cell_alloc' X x1
          clear HLd HK7 x0 x1
          go_wp2_with (first | (refine wpList_eql_fault rfl _ _ rfl rfl rfl rfl ?_))
          go_ret
          exact ⟨rfl, HBw7.out.trans (((Below.refl w7.heap.size w7).alloc (Nat.le_refl _) _).mono HBw7.out.size)⟩
        · go_wp2_with fail
          refine HLd.out.mono ?_
          rintro e w7 ⟨rfl, HK7⟩
          have HX7 : Hid (BoxF w7 f 0 0) := HX6.out.keeps HK7.out (fun e => HMf.out e.symm)
          have HBw7 : Hid (Below w.heap.size w w7) := below_mine HBw6.out HK7.out (fun j e => by have e : j = m := e; rw [e]; exact HFm.out)
          obtain ⟨x0, x1, _, _⟩ := HX7.out.cells
          have y0 := fun X => U64.cell_alloc' X x0
          have y1 := fun X => U64.cell_alloc' X x1
          clear HLd HK7 x0 x1
          go_wp2_with (first | (refine wpList_eql_fault rfl _ _ rfl rfl rfl rfl ?_))
          go_ret
          exact ⟨rfl, HBw7.out.trans (((Below.refl w7.heap.size w7).alloc (Nat.le_refl _) _).mono HBw7.out.size)⟩
        · go_wp2_with fail
          refine HLd.out.mono ?_
          rintro e w7 ⟨rfl, HK7⟩
          have HX7 : Hid (BoxF w7 f 0 0) := HX6.out.keeps HK7.out (fun e => HMf.out e.symm)
          have HBw7 : Hid (Below w.heap.size w w7) := below_mine HBw6.out HK7.out (fun j e => by have e : j = m := e; rw [e]; exact HFm.out)
          obtain ⟨x0, x1, _, _⟩ := HX7.out.cells
          have y0 := fun X => U64.cell_alloc' X x0
          have y1 := fun X => U64.cell_alloc' X x1
          clear HLd HK7 x0 x1
          go_wp2_with (first | (refine wpList_eql_fault rfl _ _ rfl rfl rfl rfl ?_))
          go_ret
          exact ⟨rfl, HBw7.out.trans (((Below.refl w7.heap.size w7).alloc (Nat.le_refl _) _).mono HBw7.out.size)⟩
        · have e : v % 256 ^ 8 = v := Nat.mod_eq_of_lt (by omega)
          rw [e] at HLd
          go_wp2_with fail
          refine HLd.out.mono ?_
          rintro e w7 ⟨rfl, HK7⟩
          have HX7 : Hid (BoxF w7 f 0 0) := HX6.out.keeps HK7.out (fun e => HMf.out e.symm)
          have HBw7 : Hid (Below w.heap.size w w7) := below_mine HBw6.out HK7.out (fun j e => by have e : j = m := e; rw [e]; exact HFm.out)
          obtain ⟨x0, x1, _, _⟩ := HX7.out.cells
          have y0 := fun X => U64.cell_alloc' X x0
          have y1 := fun X => U64.cell_alloc' X x1
          clear HLd HK7 x0 x1
          go_wp2_with (first | (refine wpList_eql_fault rfl _ _ rfl rfl rfl rfl ?_))
          go_ret
          exact ⟨rfl, HBw7.out.trans (((Below.refl w7.heap.size w7).alloc (Nat.le_refl _) _).mono HBw7.out.size)⟩
end Go.Proofs.Ytpokkbicchkfhaa
