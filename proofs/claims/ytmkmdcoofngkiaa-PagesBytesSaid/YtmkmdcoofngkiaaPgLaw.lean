/- PagesBytes: the walk. Own work. -/
import Derived.Test.YtmkmdcoofngkiaaPgHold
namespace Go.Proofs.Ytmkmdcoofngkiaa
open Go.RowKit Go.Shelf
set_option linter.unusedVariables false
set_option maxRecDepth 4000 in
set_option maxHeartbeats 8000000 in
theorem pagesBytes_walk {w : World} {f : Nat → Nat} {v : Value} {zs : List Nat} (hf : ∀ i, i < 512 → f i ≤ 18446744073709551615) (hs : Sl w v zs) : Calls Try.prog 5 #[.agg (tabV f), v] w fun e w' => e = .returned (.bool true) ∧ Below w.heap.size w w' := by
  have HF : Hid (∀ i, i < 512 → f i ≤ 18446744073709551615) := hf
  have HS := Lib.hid hs
  obtain ⟨ao, cap, rfl, h1, h2, _⟩ := hs
  unfold maxLen at h2
  obtain ⟨n, hn⟩ : ∃ n, zs.length = n := ⟨_, rfl⟩
  have HN := Lib.hid hn
  rw [hn] at h1 HS ⊢
  clear hf hn
  have hz := tab_zero.1
  obtain ⟨W0, hW0⟩ : ∃ W0, (w.alloc (.cells (tabV f) 28)).alloc (.cells #[.int .i64 (n : Int)] 3) = W0 := ⟨_, rfl⟩
  have HT0 : Hid (TabAt W0 w.heap.size f) := hW0 ▸ (TabAt.new w f).alloc _
  have HB0 : Hid (Below w.heap.size w W0) := hW0 ▸ ((Below.refl _ _).alloc (Nat.le_refl _) _).alloc (by simp) _
  have HZ0 : Hid (W0.heap.size = w.heap.size + 2) := by show _ = _; rw [← hW0]; simp
  have HC0 : Hid (W0.cell? ⟨w.heap.size + 1, 0, none⟩ = some (.int .i64 (n : Int))) := by
    show _ = _
    have h5 := heap_alloc_new (w.alloc (.cells (tabV f) 28)) (.cells #[.int .i64 (n : Int)] 3)
    rw [hW0] at h5
    rw [show (w.alloc (.cells (tabV f) 28)).heap.size = w.heap.size + 1 by simp] at h5
    rw [cell_of_row _ _ _ _ _ _ h5]
    rfl
  by_cases hB : 2147483647 < n
  · have HBy := Lib.hid (beyond1_yes n (w.heap.size + 1) 1 W0 hB HC0.out)
    go_enter Try.func5, Try.ntmps5
    go_wp2_with fail
    refine HBy.out.mono ?_
    rintro e w1 ⟨rfl, hw1⟩
    subst hw1
    clear hW0
    go_wp2_with fail
    go_ret
    exact ⟨rfl, HB0.out⟩
  · have HBn := Lib.hid (beyond1_no n (w.heap.size + 1) 1 W0 (by omega) HC0.out)
    have HPw : Hid (Pw w (W0.alloc (.cells #[.slice none 0 0, .slice none 0 0, .int .i64 0, .bool false] 57)) f W0.heap.size (.slice none 0 0) (tabN f 0)) := by
      have hx := heap_alloc_new W0 (.cells #[.slice none 0 0, .slice none 0 0, .int .i64 0, .bool false] 57)
      exact ⟨HB0.out.alloc HB0.out.size _, HT0.out.alloc _, hx, ⟨rfl, .inl ⟨rfl, rfl⟩⟩, by rw [HZ0.out]; omega⟩
    go_enter Try.func5, Try.ntmps5
    go_wp2_with fail
    refine HBn.out.mono ?_
    rintro e w1 ⟨rfl, hw1⟩
    subst hw1
    clear hW0
    go_wp2_with fail
    have hn31 : n ≤ 2147483647 := by omega
    clear hB HBn HT0 HB0 HC0
    obtain ⟨kb, hkb⟩ : ∃ kb, w1.heap.size = kb := ⟨_, rfl⟩
    rw [hkb] at HPw ⊢
    clear hkb HZ0
    generalize w1.alloc (.cells #[.slice none 0 0, .slice none 0 0, .int .i64 0, .bool false] 57) = W1 at *
    go_loopw [6, 7] (fun vv iv wr => ∃ i : Nat, i ≤ 512 ∧ iv = .int .i64 (i : Int) ∧ Hid (Pw w wr f kb vv (tabN f i))) (fun _ iv _ => 512 - (intOf iv).toNat)
    case atStart => exact ⟨0, by omega, rfl, HPw⟩
    case round =>
      clear HPw
      obtain ⟨i, hi, rfl, HP⟩ := hrel
      by_cases hi5 : i < 512
      · have ji : (i : Int) < 512 := by omega
        have hwi : IntKind.i64.wrap ((i : Int) + 1) = ((i + 1 : Nat) : Int) := by rw [IntKind.wrap_i64]; omega
        have HP0 : Hid (Pw w wr f kb u6 (tabN f i ++ Pl.le 0 (f i))) := by
          show Pw _ _ _ _ _ _
          rw [show Pl.le 0 (f i) = [] from rfl, List.append_nil]
          exact HP.out
        have hfi := HF.out i hi5
        obtain ⟨X, hX⟩ : ∃ X, f i = X := ⟨_, rfl⟩
        have HX := Lib.hid hX
        rw [hX] at HP0 hfi
        clear hX
        go_wp2_with fail
        go_loopw [6, 8] (fun vv jv wr => ∃ j : Nat, j ≤ 8 ∧ jv = .int .i64 (j : Int) ∧ Hid (Pw w wr f kb vv (tabN f i ++ Pl.le j X))) (fun _ jv _ => 8 - (intOf jv).toNat)
        case atStart => exact ⟨0, by omega, rfl, HP0⟩
        case round =>
          clear HP0 HP
          obtain ⟨j, hj, rfl, HP⟩ := hrel
          by_cases hj8 : j < 8
          · have jj : (j : Int) < 8 := by omega
            have hwj : IntKind.i64.wrap ((j : Int) + 1) = ((j + 1 : Nat) : Int) := by rw [IntKind.wrap_i64]; omega
            have hw8 : IntKind.i64.wrap (8 * (j : Int)) = ((8 * j : Nat) : Int) := by rw [IntKind.wrap_i64]; omega
            have hc := HP.out.tab.cell (p := i) hi5
            rw [HX.out] at hc
            obtain ⟨Y, hY0⟩ : ∃ Y, Pl.shr j X = Y := ⟨_, rfl⟩
            have hY : (X : Int) / 2 ^ (8 * j) = (Y : Int) := by
              rw [← hY0, shr_eq, show (256 : Nat) ^ j = 2 ^ (8 * j) by rw [Nat.pow_mul]]
              simp
            have HLe : Hid (Pl.le (j + 1) X = Pl.le j X ++ [Y % 256]) := by show _ = _; rw [Pl.le_snoc, hY0]
            have HPa := Lib.hid (HP.out.go ((Below.refl _ _).alloc (Nat.le_refl _) (.cells #[.int .u8 ((Y : Int) % 256)] 5)))
            have HSl := Lib.hid (sl_one wr Y)
            have HLn : Hid ((tabN f i ++ Pl.le j X).length + [Y % 256].length ≤ 1099511627776) := by show _ ≤ _; rw [List.length_append, tabN_len, Pl.le_length]; simp; omega
            have HNx : Hid (∀ v2 w2, Own w2 (kb + 1) v2 (tabN f i ++ Pl.le j X ++ [Y % 256]) → (wr.alloc (.cells #[.int .u8 ((Y : Int) % 256)] 5)).grownBy w2 u6.ownBlock → Pw w w2 f kb v2 (tabN f i ++ Pl.le (j + 1) X)) := fun v2 w2 ho hg => by
              rw [HLe.out, ← List.append_assoc]
              exact HPa.out.app ho hg
            have HOw := Lib.hid HPa.out.own
            have HSz : Hid (kb + 1 ≤ (wr.alloc (.cells #[.int .u8 ((Y : Int) % 256)] 5)).heap.size) := HPa.out.lt
            clear hY0
            go_wp2_with (at_builtin; refine wpList_append_sl (.tmp 29) (.tmp 38) (by kernel_rfl) rfl rfl HOw.out rfl HSl.out HLn.out HSz.out ?_; intro v2 w2 ho hg _; have HP2 := Lib.hid (HNx.out _ _ ho hg); clear ho hg)
            go_roundw
            case rel => exact ⟨j + 1, by omega, rfl, HP2⟩
            case measure => simp [intOf]; omega
          · have jj : ¬ (j : Int) < 8 := by omega
            have HP2 : Hid (Pw w wr f kb u6 (tabN f (i + 1))) := by
              have h5 := HP.out
              rw [show j = 8 by omega, ← HX.out] at h5
              exact h5
            go_wp2_with fail
            go_roundw
            case rel => exact ⟨i + 1, by omega, rfl, HP2⟩
            case measure => simp [intOf]; omega
      · have ji : ¬ (i : Int) < 512 := by omega
        have HPc : Hid (Pc w wr f kb u6 (tabN f 512)) := by
          have h5 := HP.out.pc
          rw [show i = 512 by omega] at h5
          exact h5
        clear HP
        obtain ⟨va, vc, hvv⟩ : ∃ va vc, u6 = .slice va 4096 vc := by
          rcases HPc.out.own.2 with ⟨e, h0⟩ | ⟨g, c, _, e, _⟩
          · rw [tabN_len] at h0
            omega
          · rw [tabN_len] at e
            exact ⟨_, _, e⟩
        subst hvv
        go_wp2_with fail
        go_loopw [9] (fun iv wr => ∃ i : Nat, i ≤ 2 ∧ iv = .int .i64 (i : Int) ∧ Hid (Pc w wr f kb (.slice va 4096 vc) (tabN f 512))) (fun iv _ => 2 - (intOf iv).toNat)
        case atStart => exact ⟨0, by omega, rfl, HPc⟩
        case round =>
          clear HPc
          obtain ⟨i2, hi2, rfl, HP⟩ := hrel
          by_cases hi3 : i2 < 2
          · have ji2 : (i2 : Int) < 2 := by omega
            have hwi2 : IntKind.i64.wrap ((i2 : Int) + 1) = ((i2 + 1 : Nat) : Int) := by rw [IntKind.wrap_i64]; omega
            have HBy := Lib.hid (pbytes_any HF.out wr)
            have HRs : Hid (w.heap.size ≤ wr.heap.size) := HP.out.below.size
            obtain ⟨lv, wv, held, E, hbk, hEl⟩ := HP.out.bk
            have HE : Hid (∀ k ∈ blks E, k < wr.heap.size) := blks_lt hbk.ents
            have HBk := Lib.hid hbk
            have HEl := Lib.hid hEl
            have HT := Lib.hid HP.out.tab
            clear hbk hEl
            go_wp2_with (refine wpList_load_tab (b := w.heap.size) (f := f) rfl (.tmp 2) rfl rfl HT.out ?_)
            refine HBy.out.mono ?_
            rintro e w2 ⟨g, rfl, hg, hr2, hb2⟩
            have HP2 := Lib.hid (HP.out.go hb2)
            have HBk2 := Lib.hid (HBk.out.below hb2)
            have HO2 : Hid (Own w2 wr.heap.size (.slice (some ⟨g, 0, none⟩) 4096 4096) (tabN f 512)) := by
              have h5 := own_at hr2 hg (by rw [tabN_len]; unfold maxLen; omega)
              rw [tabN_len] at h5
              exact h5
            have HSm := Lib.hid (same_any (HO2.out.sl (tabN_small f 512)) (HP2.out.own.sl (tabN_small f 512)))
            clear hr2 hb2 hg HP HBk HBy HT
            go_wp2_with fail
            refine HSm.out.mono ?_
            rintro e w3 ⟨rfl, hb3⟩
            have HP3 := Lib.hid (HP2.out.go hb3)
            have HBk3 := Lib.hid (HBk2.out.below hb3)
            have HO3 : Hid (Own w3 w.heap.size (.slice (some ⟨g, 0, none⟩) 4096 4096) (tabN f 512)) := by
              have h5 := HO2.out.below hb3
              refine ⟨h5.1, ?_⟩
              rcases h5.2 with h | ⟨g', cp', cur, e, hb, rest⟩
              · exact .inl h
              · exact .inr ⟨g', cp', cur, e, by have := HE.out; have := HP3.out.below.size; have := HP3.out.ge; have h9 := HRs.out; omega, rest⟩
            have HKe := Lib.hid (bk_keep HBk3.out HO3.out (by rw [tabN_len]; omega) (tabN_small f 512) HEl.out HP3.out.below.size (fun k' hk' hin => by
              have h5 := HE.out k' hin
              have h6 := (HO2.out.lt k' hk').1
              omega))
            clear hb3 HSm HP2 HBk2 HO2 HO3
            go_wp2_with fail
            refine HKe.out.mono ?_
            rintro e w4 ⟨rfl, lv4, wv4, held4, E4, hb4, hl4, _, hk4⟩
            have HP4 := Lib.hid (HP3.out.kept HBk3.out hb4 hl4 hk4)
            clear hb4 hl4 hk4 HKe HP3 HBk3
            go_wp2_with fail
            go_roundw
            case rel => exact ⟨i2 + 1, by omega, rfl, HP4⟩
            case measure => simp [intOf]; omega
          · have ji2 : ¬ (i2 : Int) < 2 := by omega
            have HRd : Hid (Calls Try.prog 21 #[.slice va 4096 vc] wr fun e w' => e = .returned (.tuple #[.agg (tabV f), .bool true]) ∧ Below wr.heap.size wr w') := by
              have h5 := pread_yes (HP.out.own.sl (tabN_small f 512)) (tabN_len f 512)
              rw [num_tab HF.out] at h5
              exact h5
            obtain ⟨wA, hwA⟩ : ∃ wA, wA = wr := ⟨_, rfl⟩
            subst hwA
            go_wp2_with fail
            refine HRd.out.mono ?_
            rintro e w2 ⟨rfl, hb2⟩
            have HP2 := Lib.hid (HP.out.go hb2)
            clear hb2 HRd HP
            obtain ⟨Wz, hWz⟩ : ∃ Wz, w2.alloc (.cells (tabV fun _ => 0) 28) = Wz := ⟨_, rfl⟩
            have HZt : Hid (TabAt Wz w2.heap.size (fun _ => 0)) := hWz ▸ TabAt.new w2 _
            have HBz : Hid (Below w2.heap.size w2 (Wz.setRow w2.heap.size (tabV f))) := (hWz ▸ (Below.refl _ _).alloc (Nat.le_refl _) _ : Below w2.heap.size w2 Wz).trans (below_setRow _ _ _ _ (Nat.le_refl _))
            have HP3 := Lib.hid (HP2.out.go HBz.out)
            have HX3 : Hid (TabAt (Wz.setRow w2.heap.size (tabV f)) w2.heap.size f) := HZt.out.setRow f
            have HT3 := Lib.hid HP3.out.tab
            go_upto_region 22 with (first | (refine wpList_store_tab (b := w2.heap.size) (g := f) rfl (.tmp 11) (.tmp 56) rfl rfl rfl rfl HZt.out ?_) | (refine wpList_load_tabG (b := w2.heap.size) (f := f) (by kernel_rfl) (.tmp 11) rfl rfl HX3.out ?_) | (refine wpList_load_tabG (b := w.heap.size) (f := f) (by kernel_rfl) (.tmp 2) rfl rfl HT3.out ?_) | (refine wpList_neq_tab (f := f) (by kernel_rfl) (.tmp 61) (.tmp 62) rfl rfl rfl ?_))
            clear hWz HBz HX3 HT3 HZt HP2
            generalize Wz.setRow w2.heap.size (tabV f) = W3 at *
            have HS3 := Lib.hid (HS.out.below HP3.out.below)
            have HRo := Lib.hid (roomy_any (m := 165) HS3.out (by rw [HN.out]; omega))
            rw [HN.out] at HRo
            have HSm0 : Hid (∀ z ∈ zs, z < 256) := HS.out.small
            go_wp2_with fail
            refine HRo.out.mono ?_
            rintro e w4 ⟨rfl, hr4, hb4⟩
            have HP4 := Lib.hid (HP3.out.go hb4)
            have HR4 := Lib.hid hr4
            have HS4 := Lib.hid (HS3.out.below hb4)
            generalize W3.heap.size = g4 at *
            have HFu : Hid (∀ W, Row W g4 (roomed zs 165) → Sl W (.slice (some ⟨g4, 0, none⟩) (n + 80) (n + 80)) (roomed zs 165)) := fun W h => by
              have h5 := h.sl (roomed_small HSm0.out (by omega)) 0 (n + 80) (n + 80) (by rw [roomed_length, HN.out]; omega) (Nat.le_refl _) (by unfold maxLen; omega)
              rw [List.drop_zero, List.take_of_length_le (by rw [roomed_length, HN.out]; exact Nat.le_refl _)] at h5
              exact h5
            have HFr : Hid (Sl w4 (.slice (some ⟨g4, 0, none⟩) n (n + 80)) zs) := by
              have h5 := HR4.out.sl (roomed_small HSm0.out (by omega)) 0 n (n + 80) (by rw [roomed_length, HN.out]; omega) (by omega) (by unfold maxLen; omega)
              rw [List.drop_zero, ← HN.out, roomed_take] at h5
              rw [← HN.out]
              exact h5
            have hn80 : n ≤ n + 80 := by omega
            clear hr4 hb4 HRo HP3 HS3
            by_cases h96 : n = 4096
            · have HRd : Hid (Calls Try.prog 21 #[.slice (some ⟨g4, 0, none⟩) n (n + 80)] w4 fun e w' => e = .returned (.tuple #[.agg (tabV (numT zs)), .bool true]) ∧ Below w4.heap.size w4 w') := pread_yes HFr.out (by rw [HN.out]; exact h96)
              have jn : ((n : Int) == 4096) = true := by simp; omega
              have HBx : Hid (tabN (numT zs) 512 = zs) := by
                show _ = _
                rw [tabN_num HSm0.out 512 (by rw [HN.out]; omega), List.take_of_length_le (by rw [HN.out]; omega)]
              have HN96 := Lib.hid h96
              clear h96
              go_wp2_with fail
              refine HRd.out.mono ?_
              rintro e w5 ⟨rfl, hb5⟩
              have HP5 := Lib.hid (HP4.out.go hb5)
              have HR5 := Lib.hid (HR4.out.below hb5)
              have HS5 := Lib.hid (HS4.out.below hb5)
              clear hb5 HRd HP4 HR4 HS4 HFr
              obtain ⟨Wy, hWy⟩ : ∃ Wy, w5.alloc (.cells (tabV fun _ => 0) 28) = Wy := ⟨_, rfl⟩
              have HZy : Hid (TabAt Wy w5.heap.size (fun _ => 0)) := hWy ▸ TabAt.new w5 _
              have HBy : Hid (Below w5.heap.size w5 (Wy.setRow w5.heap.size (tabV (numT zs)))) := (hWy ▸ (Below.refl _ _).alloc (Nat.le_refl _) _ : Below w5.heap.size w5 Wy).trans (below_setRow _ _ _ _ (Nat.le_refl _))
              have HP6 := Lib.hid (HP5.out.go HBy.out)
              have HR6 := Lib.hid (HR5.out.below HBy.out)
              have HS6 := Lib.hid (HS5.out.below HBy.out)
              have HX6 : Hid (TabAt (Wy.setRow w5.heap.size (tabV (numT zs))) w5.heap.size (numT zs)) := HZy.out.setRow (numT zs)
              go_upto_region 24 with (refine wpList_store_tab (b := w5.heap.size) (g := numT zs) rfl (.tmp 14) (.tmp 73) rfl rfl rfl rfl HZy.out ?_)
              clear hWy HBy HZy HP5 HR5 HS5
              generalize Wy.setRow w5.heap.size (tabV (numT zs)) = W6 at *
              have HIn := Lib.hid (intact_any (HFu.out _ HR6.out) HS6.out)
              go_wp2_with fail
              refine HIn.out.mono ?_
              rintro e w7 ⟨rfl, hb7⟩
              have HP7 := Lib.hid (HP6.out.go hb7)
              have HX7 : Hid (TabAt w7 w5.heap.size (numT zs)) := HX6.out.below hb7 HX6.out.lt
              have HS7 := Lib.hid (HS6.out.below hb7)
              have HBy7 := Lib.hid (pbytes_any (f := numT zs) (fun i _ => num_lt HSm0.out i) w7)
              clear hb7 HIn HP6 HX6 HS6 HR6
              go_wp2_with (refine wpList_load_tabG (b := w5.heap.size) (f := numT zs) (by kernel_rfl) (.tmp 14) rfl rfl HX7.out ?_)
              refine HBy7.out.mono ?_
              rintro e w8 ⟨g8, rfl, hg8, hr8, hb8⟩
              have HP8 := Lib.hid (HP7.out.go hb8)
              have HO8 : Hid (Sl w8 (.slice (some ⟨g8, 0, none⟩) 4096 4096) zs) := by
                have h5 := (own_at hr8 (Nat.le_refl _) (by rw [tabN_len]; unfold maxLen; omega)).sl (tabN_small _ 512)
                rw [tabN_len, HBx.out] at h5
                exact h5
              have HSm := Lib.hid (same_any HO8.out (HS7.out.below hb8))
              clear hg8 hr8 hb8 HP7 HS7 HX7 HBy7
              go_wp2_with fail
              refine HSm.out.mono ?_
              rintro e w9 ⟨rfl, hb9⟩
              have HP9 := Lib.hid (HP8.out.go hb9)
              clear hb9 HSm HP8 HO8
              obtain ⟨lv, wv, held, E, hbk, hEl⟩ := HP9.out.bk
              have HBk := Lib.hid hbk
              have HAp := Lib.hid (bk_apart hbk hEl)
              have HBl : Hid (∀ w', Keeps (fun k => k = kb ∨ ∃ e ∈ E, e.lv.ownBlock = some k) w9 w' → Below w.heap.size w w') := fun w' hk => HP9.out.below.trans (hk.below HP9.out.below.size (fun i' _ e => by
                rcases e with e | ⟨x, hx, hq⟩
                · have := HP9.out.ge; omega
                · exact ((HBk.out.ents x hx).l.lt i' hq).1))
              clear hbk hEl
              go_wp2_with fail
              refine HAp.out.mono ?_
              rintro e w19 ⟨rfl, hk19⟩
              have HB19 := Lib.hid (HBl.out _ hk19)
              clear hk19
              go_wp2_with fail
              go_ret
              exact ⟨rfl, HB19.out⟩
            · have HRd : Hid (Calls Try.prog 21 #[.slice (some ⟨g4, 0, none⟩) n (n + 80)] w4 fun e w' => e = .returned (.tuple #[.agg (tabV fun _ => 0), .bool false]) ∧ Below w4.heap.size w4 w') := pread_no HFr.out (by rw [HN.out]; exact h96)
              have jn : ((n : Int) == 4096) = false := by simp; omega
              clear h96
              go_wp2_with fail
              refine HRd.out.mono ?_
              rintro e w5 ⟨rfl, hb5⟩
              have HP5 := Lib.hid (HP4.out.go hb5)
              have HR5 := Lib.hid (HR4.out.below hb5)
              have HS5 := Lib.hid (HS4.out.below hb5)
              clear hb5 HRd HP4 HR4 HS4 HFr
              obtain ⟨Wy, hWy⟩ : ∃ Wy, w5.alloc (.cells (tabV fun _ => 0) 28) = Wy := ⟨_, rfl⟩
              have HZy : Hid (TabAt Wy w5.heap.size (fun _ => 0)) := hWy ▸ TabAt.new w5 _
              have HBy : Hid (Below w5.heap.size w5 (Wy.setRow w5.heap.size (tabV fun _ => 0))) := (hWy ▸ (Below.refl _ _).alloc (Nat.le_refl _) _ : Below w5.heap.size w5 Wy).trans (below_setRow _ _ _ _ (Nat.le_refl _))
              have HP6 := Lib.hid (HP5.out.go HBy.out)
              have HR6 := Lib.hid (HR5.out.below HBy.out)
              have HS6 := Lib.hid (HS5.out.below HBy.out)
              have HX6 : Hid (TabAt (Wy.setRow w5.heap.size (tabV fun _ => 0)) w5.heap.size (fun _ => 0)) := HZy.out.setRow (fun _ => 0)
              go_upto_region 24 with (refine wpList_store_tab (b := w5.heap.size) (g := fun _ => 0) rfl (.tmp 14) (.tmp 73) rfl rfl rfl rfl HZy.out ?_)
              clear hWy HBy HZy HP5 HR5 HS5
              generalize Wy.setRow w5.heap.size (tabV fun _ => 0) = W6 at *
              have HIn := Lib.hid (intact_any (HFu.out _ HR6.out) HS6.out)
              go_wp2_with (first | (refine wpList_load_tabG (b := w5.heap.size) (f := fun _ => 0) (by kernel_rfl) (.tmp 14) rfl rfl HX6.out ?_) | (refine wpList_neq_tab (f := fun _ => 0) (by kernel_rfl) (.tmp 84) (.tmp 85) rfl rfl rfl ?_))
              refine HIn.out.mono ?_
              rintro e w7 ⟨rfl, hb7⟩
              have HP7 := Lib.hid (HP6.out.go hb7)
              clear hb7 HIn HP6 HX6 HS6 HR6
              obtain ⟨lv, wv, held, E, hbk, hEl⟩ := HP7.out.bk
              have HBk := Lib.hid hbk
              have HAp := Lib.hid (bk_apart hbk hEl)
              have HBl : Hid (∀ w', Keeps (fun k => k = kb ∨ ∃ e ∈ E, e.lv.ownBlock = some k) w7 w' → Below w.heap.size w w') := fun w' hk => HP7.out.below.trans (hk.below HP7.out.below.size (fun i' _ e => by
                rcases e with e | ⟨x, hx, hq⟩
                · have := HP7.out.ge; omega
                · exact ((HBk.out.ents x hx).l.lt i' hq).1))
              clear hbk hEl
              go_wp2_with fail
              refine HAp.out.mono ?_
              rintro e w19 ⟨rfl, hk19⟩
              have HB19 := Lib.hid (HBl.out _ hk19)
              clear hk19
              go_wp2_with fail
              go_ret
              exact ⟨rfl, HB19.out⟩
end Go.Proofs.Ytmkmdcoofngkiaa
