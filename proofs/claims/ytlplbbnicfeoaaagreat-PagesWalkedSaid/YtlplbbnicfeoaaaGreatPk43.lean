import Derived.Test.YtlplbbnicfeoaaaGreatPk34
import Derived.Test.YtlplbbnicfeoaaaGreatPk35
import Derived.Test.YtlplbbnicfeoaaaGreatPk41
import Derived.Test.YtlplbbnicfeoaaaGreatPk42
import Derived.Test.YtlplbbnicfeoaaaGreatPk36
import Derived.Test.YtlplbbnicfeoaaaGreatPk39
import Derived.Test.YtlplbbnicfeoaaaGreatPk37
/- Pages: PagesWalked, the walk. Own work. -/
namespace Go.Proofs.YtlplbbnicfeoaaaGreat
open Go.RowKit Go.Maps Go.Proofs.YtlplbbnicfeoaaaGreat.Sp Wk
set_option linter.unusedVariables false
theorem lfC_tabs : tabsF 1 0 0 [lfC] = 3 := by decide
theorem lfC_refu : refuF 0 [lfC] = 0 := by decide
theorem lfC_why {b : Nat} (h4 : b % 4096 = 0) (hl : b < 2147483648) : whyF [lfC] b = 0 := by
  have hc : countF [lfC] = (3, 0) := by
    unfold countF
    rw [lfC_refu, lfC_tabs]
    rfl
  unfold whyF
  rw [hc, if_neg (by decide), if_neg (by omega), if_neg (by
    unfold winB
    rw [decide_eq_true (show b + 3 * 4096 ≤ 4294967296 by omega)]
    decide)]
theorem Lv.of_C {w : World} : Lv (w.alloc (.cells #[.int .u64 12288, .int .u64 32768, .int .i64 1, .bool false, .bool true, .bool false] 26)) (.slice (some ⟨w.heap.size, 0, none⟩) 1 1) [lfC] := by
  have h : LfAt (w.alloc (.cells #[.int .u64 12288, .int .u64 32768, .int .i64 1, .bool false, .bool true, .bool false] 26)) w.heap.size lfC := heap_alloc_new w _
  obtain ⟨c0, c1, c2, c3, c4, c5⟩ := h.cells
  refine ⟨some ⟨w.heap.size, 0, none⟩, 1, rfl, Nat.le_refl _, by unfold maxLen; omega, (fun x hx => by rw [List.mem_singleton.1 hx]; unfold L6.ok lfC; decide), fun i hi => ?_⟩
  have hi0 : i = 0 := by simp at hi; exact hi
  subst hi0
  exact ⟨w.heap.size, 0, rfl, c0, c1, c2, c3, c4, c5⟩
/-- laid, and then asked -/
def Ask (xs : List L6) (base n : Nat) (v : Value) (w0 : World) (m : Nat) : Prop := ∀ (W : World) (a : Nat), InM w0 W m base n (entM base (bldM xs base) (n * 512)) → a ≤ 18446744073709551615 → Calls Tryz.prog 7 #[.pointer (some ⟨m, 0, none⟩), .int .u64 (base : Int), v, .int .u64 (a : Int)] W fun e w' => e = .returned (.bool true) ∧ InM w0 w' m base n (entM base (bldM xs base) (n * 512))
theorem laid_ask {w w1 : World} {xs : List L6} {base n G : Nat} {v : Value} (hy : whyF xs base = 0) (hn : tabsF 1 0 0 xs = n) (hg : GAt w1 G n (bldM xs base)) (hv : Lv w1 v xs) : Calls Tryz.prog 6 #[.slice (some ⟨G, 0, none⟩) n n, .int .u64 (base : Int)] w1 fun e w' => ∃ m, e = .returned (.pointer (some ⟨m, 0, none⟩)) ∧ Hid (InM w1 w' m base n (entM base (bldM xs base) (n * 512))) ∧ Hid (Ask xs base n v w1 m) := by
  obtain ⟨hr, _, hn4, hb4, hbl⟩ := why_zero hy
  have hn1 := tabs_pos hr
  rw [hn] at hn4 hbl hn1
  refine (laid_any hg hn1 hn4 hb4 hbl (bld_word hy)).mono ?_
  rintro e w' ⟨m, rfl, h⟩
  exact ⟨m, rfl, h.inM, fun W a hW ha => says_any hy hn hv hW ha⟩
set_option maxRecDepth 100000 in
set_option maxHeartbeats 8000000 in
theorem walked_walk {w : World} {v u : Value} {xs : List L6} {qs : List Nat} {base : Nat} (h : Lv w v xs) (hb : base ≤ 18446744073709551615) (hu : UAt w u qs) : Calls Tryz.prog 3 #[v, .int .u64 (base : Int), u] w fun e w' => e = .returned (.bool true) ∧ Below w.heap.size w w' := by
  have HR := Lib.hid h
  have HU := Lib.hid hu
  have HC : Hid (∀ W vc, Lv W vc [lfC] → Calls Tryz.prog 5 #[vc, .int .u64 4096] W fun e w' => ∃ G, e = .returned (.tuple #[.slice (some ⟨G, 0, none⟩) 3 3, .int .i64 0]) ∧ GAt w' G 3 (bldM [lfC] 4096) ∧ W.heap.size ≤ G ∧ Below W.heap.size W w') := fun W vc hW => build_yes (base := 4096) hW (by decide) (lfC_why (by decide) (by decide)) lfC_tabs
  have HD : Hid (∀ W G vc, GAt W G 3 (bldM [lfC] 4096) → Lv W vc [lfC] → Calls Tryz.prog 6 #[.slice (some ⟨G, 0, none⟩) 3 3, .int .u64 4096] W fun e w' => ∃ m, e = .returned (.pointer (some ⟨m, 0, none⟩)) ∧ Hid (InM W w' m 4096 3 (entM 4096 (bldM [lfC] 4096) (3 * 512))) ∧ Hid (Ask [lfC] 4096 3 vc W m)) := fun W G vc hg hW => laid_ask (w := W) (base := 4096) (lfC_why (by decide) (by decide)) lfC_tabs hg hW
  unfold Ask at HD
  generalize entM 4096 (bldM [lfC] 4096) (3 * 512) = MD at *
  generalize bldM [lfC] 4096 = MC at *
  have HL1 := Lib.hid (Lv.of_C (w := w))
  have HB1 : Hid (Below w.heap.size w (w.alloc (.cells #[.int .u64 12288, .int .u64 32768, .int .i64 1, .bool false, .bool true, .bool false] 26))) := (Below.refl _ _).alloc (Nat.le_refl _) _
  obtain ⟨ao, cap, rfl, q1, q2, q3, q9⟩ := h
  obtain ⟨au, capu, rfl, r1, r2, r3, r9⟩ := hu
  clear q9 r9
  unfold maxLen at q2 r2
  obtain ⟨L, hL⟩ : ∃ L, xs.length = L := ⟨_, rfl⟩
  obtain ⟨K, hK⟩ : ∃ K, qs.length = K := ⟨_, rfl⟩
  have HN := Lib.hid hL
  have HK := Lib.hid hK
  rw [hL] at q1 HR ⊢
  rw [hK] at r1 HU ⊢
  go_enter Tryz.func3, Tryz.ntmps3
  go_wp2_with fail
  generalize (w.alloc (.cells #[.int .u64 12288, .int .u64 32768, .int .i64 1, .bool false, .bool true, .bool false] 26)) = w1 at *
  refine (HC.out _ _ HL1.out).mono ?_
  rintro e w2 ⟨G1, rfl, hg1, _, hb2⟩
  have HL2 := Lib.hid (HL1.out.below hb2)
  have HB2 := Lib.hid (HB1.out.trans (hb2.mono HB1.out.size))
  have HG2 := Lib.hid hg1
  clear hb2 HB1 HC HL1 hg1
  go_wp2_with fail
  refine (HD.out _ _ _ HG2.out HL2.out).mono ?_
  rintro e w3 ⟨m1, rfl, HI3, HA3⟩
  clear HD
  go_wp2_with fail
  refine (HA3.out _ 12304 HI3.out (by decide)).mono ?_
  rintro e w4 ⟨rfl, hi4⟩
  have HI4 := Lib.hid hi4
  clear hi4 HI3
  go_wp2_with fail
  refine (HA3.out _ 16384 HI4.out (by decide)).mono ?_
  rintro e w5 ⟨rfl, hi5⟩
  have HB5 := Lib.hid (HB2.out.trans (hi5.old.mono HB2.out.size))
  clear hi5 HI4 HA3 HB2 HG2 HL2
  have HNo : Hid (whyF xs base ≠ 0 → ∀ W, Lv W (.slice ao L cap) xs → Calls Tryz.prog 5 #[.slice ao L cap, .int .u64 (base : Int)] W fun e w' => e = .returned (.tuple #[.slice none 0 0, .int .i64 (whyF xs base)]) ∧ Below W.heap.size W w') := fun hy W hW => build_no hW hb hy
  have HNr : Hid (whyF xs base ≠ 0 → ∀ W, Lv W (.slice ao L cap) xs → Calls Tryz.prog 10 #[.slice ao L cap, .int .u64 (base : Int)] W fun e w' => e = .returned (.tuple #[.slice none 0 0, .int .i64 (whyF xs base)]) ∧ Below W.heap.size W w') := fun hy W hW => rbuild_no hW hb hy
  have HRf : Hid (∀ W, Lv W (.slice ao L cap) xs → Calls Tryz.prog 8 #[.slice ao L cap] W fun e w' => e = .returned (.int .i64 (refuF 0 xs)) ∧ Below W.heap.size W w') := fun W hW => rrefuses_any hW
  have HFw : Hid (refuF 0 xs = 0 → ∀ W, Lv W (.slice ao L cap) xs → Calls Tryz.prog 9 #[.slice ao L cap] W (FewP L W)) := fun hr W hW => by
    have h5 := few_any hW (fun x hx => (alone_ok (refu_all hr x hx)).2)
    rw [hL] at h5
    exact h5
  by_cases hy : whyF xs base = 0
  · have hr := (why_zero hy).1
    obtain ⟨n, hn⟩ : ∃ n, tabsF 1 0 0 xs = n := ⟨_, rfl⟩
    have HBy : Hid (∀ W, Lv W (.slice ao L cap) xs → Calls Tryz.prog 5 #[.slice ao L cap, .int .u64 (base : Int)] W fun e w' => ∃ G, e = .returned (.tuple #[.slice (some ⟨G, 0, none⟩) n n, .int .i64 0]) ∧ GAt w' G n (bldM xs base) ∧ W.heap.size ≤ G ∧ Below W.heap.size W w') := fun W hW => build_yes hW hb hy hn
    have HBr : Hid (∀ W, Lv W (.slice ao L cap) xs → Calls Tryz.prog 10 #[.slice ao L cap, .int .u64 (base : Int)] W fun e w' => ∃ u, e = .returned (.tuple #[u, .int .i64 0]) ∧ Below W.heap.size W w') := fun W hW => rbuild_yes hW hb hy
    have HLa : Hid (∀ W G, GAt W G n (bldM xs base) → Lv W (.slice ao L cap) xs → Calls Tryz.prog 6 #[.slice (some ⟨G, 0, none⟩) n n, .int .u64 (base : Int)] W fun e w' => ∃ m, e = .returned (.pointer (some ⟨m, 0, none⟩)) ∧ Hid (InM W w' m base n (entM base (bldM xs base) (n * 512))) ∧ Hid (Ask xs base n (.slice ao L cap) W m)) := fun W G hg hW => laid_ask (w := W) hy hn hg hW
    have HXa : Hid (∀ x ∈ xs, aloneF x = 0) := refu_all hr
    have HQb : Hid (∀ a ∈ qs, a ≤ 18446744073709551615) := r3
    rw [hr] at HRf
    have HFw2 := Lib.hid (HFw.out hr)
    clear HNo HNr HFw hy hr hn hL hK q3 r3 hb
    unfold Ask at HLa
    generalize entM base (bldM xs base) (n * 512) = M at *
    go_wp2_with fail
    refine (HRf.out _ (HR.out.below HB5.out)).mono ?_
    rintro e w6 ⟨rfl, hb6⟩
    have HB6 := Lib.hid (HB5.out.trans (hb6.mono HB5.out.size))
    clear hb6 HB5 HRf
    go_wp2_with fail
    refine (HFw2.out _ (HR.out.below HB6.out)).mono ?_
    rintro e w7 ⟨bf, rfl, _, hb7⟩
    have HB7 := Lib.hid (HB6.out.trans (hb7.mono HB6.out.size))
    clear hb7 HB6 HFw2
    cases bf with
    | false =>
      go_wp2_with fail
      go_ret
      exact ⟨rfl, HB7.out⟩
    | true =>
      go_wp2_with fail
      refine (HBy.out _ (HR.out.below HB7.out)).mono ?_
      rintro e w8 ⟨G, rfl, hg8, _, hb8⟩
      have HB8 := Lib.hid (HB7.out.trans (hb8.mono HB7.out.size))
      have HG8 := Lib.hid hg8
      clear hb8 HB7 HBy hg8
      go_wp2_with fail
      refine (HBr.out _ (HR.out.below HB8.out)).mono ?_
      rintro e w9 ⟨u9, rfl, hb9⟩
      have HB9 := Lib.hid (HB8.out.trans (hb9.mono HB8.out.size))
      have HG9 := Lib.hid (HG8.out.below hb9)
      clear hb9 HB8 HBr HG8
      go_wp2_with fail
      refine (HLa.out _ _ HG9.out (HR.out.below HB9.out)).mono ?_
      rintro e w10 ⟨m, rfl, HI10, HA⟩
      clear HLa HG9
      have HO : Hid (∀ W, InM w9 W m base n M → Below w.heap.size w W) := fun W hW => HB9.out.trans (hW.old.mono HB9.out.size)
      go_wp2_with fail
      go_loopw [13] (fun iv wr => ∃ i : Nat, i ≤ L ∧ iv = .int .i64 (i : Int) ∧ Hid (InM w9 wr m base n M)) (fun iv _ => L - (intOf iv).toNat)
      case atStart => exact ⟨0, by omega, rfl, HI10⟩
      case round =>
        clear HI10
        obtain ⟨i, hi, rfl, HI⟩ := hrel
        by_cases hin : i < L
        · have hix : i < xs.length := by rw [HN.out]; exact hin
          have ji : (i : Int) < (L : Int) := by omega
          have wi : IntKind.i64.wrap ((i : Int) + 1) = ((i + 1 : Nat) : Int) := by rw [IntKind.wrap_i64]; omega
          have hxa := HXa.out xs[i] (List.getElem_mem _)
          have HCl : Hid (∀ W, Below w.heap.size w W → ∃ b o, ao = some ⟨b, o, none⟩ ∧ W.cell? ⟨b, o + i * 6, none⟩ = some (.int .u64 (xs[i].v : Int)) ∧ W.cell? ⟨b, o + i * 6 + 2, none⟩ = some (.int .i64 xs[i].n)) := fun W hW => by
            obtain ⟨_, _, e', _, _, _, hc⟩ := HR.out.below hW
            simp only [Value.slice.injEq] at e'
            obtain ⟨rfl, e9, rfl⟩ := e'
            obtain ⟨b, o, e8, c0, _, c2, _⟩ := hc i hix
            exact ⟨b, o, e8, c0, c2⟩
          generalize xs[i] = x at *
          obtain ⟨z1, _, _, z4, _, _⟩ := aloneF_zero hxa
          clear hxa
          obtain ⟨xv, xp, xn, xb, xw, xe⟩ := x
          simp only at z1 z4 HCl
          obtain ⟨mm, rfl⟩ : ∃ m : Nat, xn = (m : Int) := ⟨xn.toNat, by omega⟩
          have z4 : xv + mm * 4096 ≤ 549755813888 := z4
          obtain ⟨S, hS⟩ : ∃ S, mm * 4096 = S := ⟨_, rfl⟩
          obtain ⟨E, hE⟩ : ∃ E, xv + S = E := ⟨_, rfl⟩
          obtain ⟨a0, ha0⟩ : ∃ a0, (xv + 18446744073709551615) % 18446744073709551616 = a0 := ⟨_, rfl⟩
          obtain ⟨a2, ha2⟩ : ∃ a2, E - 1 = a2 := ⟨_, rfl⟩
          have wm : IntKind.u64.wrap (mm : Int) = (mm : Int) := by rw [IntKind.wrap_u64]; omega
          have ws : IntKind.u64.wrap ((mm : Int) * 4096) = (S : Int) := by rw [IntKind.wrap_u64]; omega
          have we : IntKind.u64.wrap ((xv : Int) + (S : Int)) = (E : Int) := by rw [IntKind.wrap_u64]; omega
          have w0 : IntKind.u64.wrap ((xv : Int) - 1) = (a0 : Int) := by rw [IntKind.wrap_u64]; omega
          have w2 : IntKind.u64.wrap ((E : Int) - 1) = (a2 : Int) := by rw [IntKind.wrap_u64]; omega
          have b0 : a0 ≤ 18446744073709551615 := by omega
          have b1 : xv ≤ 18446744073709551615 := by omega
          have b2 : a2 ≤ 18446744073709551615 := by omega
          have b3 : E ≤ 18446744073709551615 := by omega
          have B0 := Lib.hid b0
          have B1 := Lib.hid b1
          have B2 := Lib.hid b2
          have B3 := Lib.hid b3
          clear b0 b1 b2 b3 ha0 ha2 hE hS z1 z4
          obtain ⟨b, of, hao, c0, c2⟩ := HCl.out wr (HO.out _ HI.out)
          subst hao
          have HCl : Hid (∀ W, InM w9 W m base n M → W.cell? ⟨b, of + i * 6, none⟩ = some (.int .u64 (xv : Int)) ∧ W.cell? ⟨b, of + i * 6 + 2, none⟩ = some (.int .i64 (mm : Int))) := fun W hW => by
            obtain ⟨b', o', e', d⟩ := HCl.out W (HO.out _ hW)
            simp only [Option.some.injEq, Addr.mk.injEq] at e'
            obtain ⟨rfl, rfl, _⟩ := e'
            exact d
          go_wp2_with fail
          go_region
          have HI1 : Hid (InM w9 wr.drew m base n M) := HI.out.below (Below.refl _ _).drew
          obtain ⟨c0, c2⟩ := HCl.out _ HI1.out
          clear HI
          go_wp2_with fail
          refine (HA.out _ a0 HI1.out B0.out).mono ?_
          rintro e y0 ⟨rfl, hi0⟩
          have HJ0 := Lib.hid hi0
          clear c0 c2 HI1 hi0
          obtain ⟨c0, c2⟩ := HCl.out _ HJ0.out
          go_wp2_with fail
          refine (HA.out _ xv HJ0.out B1.out).mono ?_
          rintro e y1 ⟨rfl, hi1⟩
          have HJ1 := Lib.hid hi1
          clear c0 c2 HJ0 hi1
          obtain ⟨c0, c2⟩ := HCl.out _ HJ1.out
          go_wp2_with fail
          refine (HA.out _ a2 HJ1.out B2.out).mono ?_
          rintro e y2 ⟨rfl, hi2⟩
          have HJ2 := Lib.hid hi2
          clear c0 c2 HJ1 hi2
          obtain ⟨c0, c2⟩ := HCl.out _ HJ2.out
          go_wp2_with fail
          refine (HA.out _ E HJ2.out B3.out).mono ?_
          rintro e y3 ⟨rfl, hi3⟩
          have HJ3 := Lib.hid hi3
          clear c0 c2 HJ2 hi3
          obtain ⟨c0, c2⟩ := HCl.out _ HJ3.out
          go_wp2_with fail
          go_roundw
          case rel => exact ⟨i + 1, by omega, rfl, HJ3⟩
          case measure => simp [intOf]; omega
        · have ji : ¬ (i : Int) < (L : Int) := by omega
          clear hin
          go_wp2_with fail
          go_loopw [15] (fun iv wr => ∃ i : Nat, i ≤ K ∧ iv = .int .i64 (i : Int) ∧ Hid (InM w9 wr m base n M)) (fun iv _ => K - (intOf iv).toNat)
          case atStart => exact ⟨0, by omega, rfl, HI⟩
          case round =>
            clear HI ji
            obtain ⟨i, hi, rfl, HI⟩ := hrel
            by_cases hin : i < K
            · have hix : i < qs.length := by rw [HK.out]; exact hin
              have ji : (i : Int) < (K : Int) := by omega
              have wi : IntKind.i64.wrap ((i : Int) + 1) = ((i + 1 : Nat) : Int) := by rw [IntKind.wrap_i64]; omega
              have HQ : Hid (qs[i] ≤ 18446744073709551615) := HQb.out _ (List.getElem_mem _)
              obtain ⟨_, _, e', _, _, _, hc⟩ := HU.out.below (HO.out _ HI.out)
              simp only [Value.slice.injEq] at e'
              obtain ⟨rfl, e9, rfl⟩ := e'
              obtain ⟨b, of, rfl, c0⟩ := hc i hix
              clear hc e9
              generalize qs[i] = q at *
              go_wp2_with fail
              refine (HA.out _ q HI.out HQ.out).mono ?_
              rintro e y0 ⟨rfl, hi0⟩
              have HJ0 := Lib.hid hi0
              clear c0 HI hi0
              go_wp2_with fail
              go_roundw
              case rel => exact ⟨i + 1, by omega, rfl, HJ0⟩
              case measure => simp [intOf]; omega
            · have ji : ¬ (i : Int) < (K : Int) := by omega
              have HE := Lib.hid (HO.out _ HI.out)
              go_wp2_with fail
              go_ret
              exact ⟨rfl, HE.out⟩
  · obtain ⟨wy, hwy⟩ : ∃ y, whyF xs base = y := ⟨_, rfl⟩
    have HNo2 := Lib.hid (HNo.out hy)
    have HNr2 := Lib.hid (HNr.out hy)
    rw [hwy] at HNo2 HNr2 hy
    have jy : (wy != 0) = true := by simpa using hy
    clear HNo HNr hL hK q3 r3 hb hwy
    have HEnd : True := trivial
    by_cases hr : refuF 0 xs = 0
    · have HFw2 := Lib.hid (HFw.out hr)
      rw [hr] at HRf
      clear HFw hr
      go_wp2_with fail
      refine (HRf.out _ (HR.out.below HB5.out)).mono ?_
      rintro e w6 ⟨rfl, hb6⟩
      have HB6 := Lib.hid (HB5.out.trans (hb6.mono HB5.out.size))
      clear hb6 HB5 HRf
      go_wp2_with fail
      refine (HFw2.out _ (HR.out.below HB6.out)).mono ?_
      rintro e w7 ⟨bf, rfl, _, hb7⟩
      have HB7 := Lib.hid (HB6.out.trans (hb7.mono HB6.out.size))
      clear hb7 HB6 HFw2
      cases bf with
      | false =>
        go_wp2_with fail
        go_ret
        exact ⟨rfl, HB7.out⟩
      | true =>
        go_wp2_with fail
        refine (HNo2.out _ (HR.out.below HB7.out)).mono ?_
        rintro e w8 ⟨rfl, hb8⟩
        have HB8 := Lib.hid (HB7.out.trans (hb8.mono HB7.out.size))
        clear hb8 HB7 HNo2
        go_wp2_with fail
        refine (HNr2.out _ (HR.out.below HB8.out)).mono ?_
        rintro e w9 ⟨rfl, hb9⟩
        have HB9 := Lib.hid (HB8.out.trans (hb9.mono HB8.out.size))
        clear hb9 HB8 HNr2
        go_wp2_with fail
        go_ret
        exact ⟨rfl, HB9.out⟩
    · obtain ⟨rf, hrf⟩ : ∃ y, refuF 0 xs = y := ⟨_, rfl⟩
      rw [hrf] at HRf hr
      have jr : (rf == 0) = false := by simpa using hr
      clear HFw hrf
      go_wp2_with fail
      refine (HRf.out _ (HR.out.below HB5.out)).mono ?_
      rintro e w6 ⟨rfl, hb6⟩
      have HB6 := Lib.hid (HB5.out.trans (hb6.mono HB5.out.size))
      clear hb6 HB5 HRf
      go_wp2_with fail
      refine (HNo2.out _ (HR.out.below HB6.out)).mono ?_
      rintro e w8 ⟨rfl, hb8⟩
      have HB8 := Lib.hid (HB6.out.trans (hb8.mono HB6.out.size))
      clear hb8 HB6 HNo2
      go_wp2_with fail
      refine (HNr2.out _ (HR.out.below HB8.out)).mono ?_
      rintro e w9 ⟨rfl, hb9⟩
      have HB9 := Lib.hid (HB8.out.trans (hb9.mono HB8.out.size))
      clear hb9 HB8 HNr2
      go_wp2_with fail
      go_ret
      exact ⟨rfl, HB9.out⟩
end Go.Proofs.YtlplbbnicfeoaaaGreat
