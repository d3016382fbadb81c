/- Pages: PagesAlike, the walk. Own work. -/
import Derived.Test.YtjfpdphedpnelaaPgAk
namespace Go.Proofs.Ytjfpdphedpnelaa
open Go.RowKit Wk
set_option linter.unusedVariables false
theorem Lv.of_one {w : World} : Lv (w.alloc (.cells #[.int .u64 1073741824, .int .u64 0, .int .i64 1, .bool false, .bool false, .bool false] 34)) (.slice (some ⟨w.heap.size, 0, none⟩) 1 1) [lf1] := by
  have h : LfAt (w.alloc (.cells #[.int .u64 1073741824, .int .u64 0, .int .i64 1, .bool false, .bool false, .bool false] 34)) w.heap.size lf1 := heap_alloc_new w _
  obtain ⟨c0, c1, c2, c3, c4, c5⟩ := h.cells
  refine ⟨some ⟨w.heap.size, 0, none⟩, 1, rfl, Nat.le_refl _, by unfold maxLen; omega, (fun x hx => by rw [List.mem_singleton.1 hx]; unfold L6.ok lf1; decide), fun i hi => ?_⟩
  have hi0 : i = 0 := by simp at hi; exact hi
  subst hi0
  exact ⟨w.heap.size, 0, rfl, c0, c1, c2, c3, c4, c5⟩
set_option maxRecDepth 100000 in
set_option maxHeartbeats 8000000 in
theorem alike_walk {w : World} {v : Value} {xs : List L6} {base : Nat} (h : Lv w v xs) (hb : base ≤ 18446744073709551615) : Calls Try.prog 4 #[v, .int .u64 (base : Int)] w fun e w' => e = .returned (.bool true) ∧ Below w.heap.size w w' := by
  have HR := Lib.hid h
  obtain ⟨b0, hb0⟩ : ∃ b0, base / 4096 * 4096 % 2147483648 = b0 := ⟨_, rfl⟩
  have hb04 : b0 % 4096 = 0 := by omega
  have hb0l : b0 < 2147483648 := by omega
  have jn : bits .andNot .u64 (base : Int) 4095 = ((base / 4096 * 4096 : Nat) : Int) := not12 hb
  obtain ⟨q, hq⟩ : ∃ q, base / 4096 * 4096 = q := ⟨_, rfl⟩
  have jr : ((q : Int).tmod 2147483648) = (b0 : Int) := by
    rw [← hb0, hq]
    rfl
  rw [hq] at jn
  clear hq hb0
  have H1 : Hid (∀ W, Lv W (.slice (some ⟨w.heap.size, 0, none⟩) 1 1) [lf1] → Calls Try.prog 13 #[.slice (some ⟨w.heap.size, 0, none⟩) 1 1, .int .u64 (b0 : Int)] W fun e w' => ∃ G, e = .returned (.tuple #[.slice (some ⟨G, 0, none⟩) 3 3, .int .i64 0]) ∧ GAt w' G 3 (bldM [lf1] b0) ∧ W.heap.size ≤ G ∧ Below W.heap.size W w') := fun W hW => build_yes hW (by omega) (lf1_why hb04 hb0l) lf1_tabs
  have HL1 := Lib.hid (Lv.of_one (w := w))
  have HB1 : Hid (Below w.heap.size w (w.alloc (.cells #[.int .u64 1073741824, .int .u64 0, .int .i64 1, .bool false, .bool false, .bool false] 34))) := (Below.refl _ _).alloc (Nat.le_refl _) _
  have HNo : Hid (whyF xs base ≠ 0 → ∀ W, Lv W v xs → Calls Try.prog 13 #[v, .int .u64 (base : Int)] W fun e w' => e = .returned (.tuple #[.slice none 0 0, .int .i64 (whyF xs base)]) ∧ Below W.heap.size W w') := fun hy W hW => build_no hW hb hy
  obtain ⟨ao, cap, rfl, q1, q2, q3, q9⟩ := h
  clear q9 hb04 hb0l
  unfold maxLen at q2
  obtain ⟨L, hL⟩ : ∃ L, xs.length = L := ⟨_, rfl⟩
  have HN := Lib.hid hL
  rw [hL] at q1 HNo HR ⊢
  have HXs : Hid (∀ x ∈ xs, L6.ok x) := q3
  clear q3
  go_enter Try.func4, Try.ntmps4
  go_wp2_with fail
  generalize (w.alloc (.cells #[.int .u64 1073741824, .int .u64 0, .int .i64 1, .bool false, .bool false, .bool false] 34)) = w1 at *
  refine (H1.out _ HL1.out).mono ?_
  rintro e w2 ⟨G1, rfl, _, _, hb2⟩
  have HB2 := Lib.hid (HB1.out.trans (hb2.mono HB1.out.size))
  clear hb2 HB1 H1 HL1 jn jr
  obtain ⟨wy, hwy⟩ : ∃ y, whyF xs base = y := ⟨_, rfl⟩
  by_cases hy0 : wy = 0
  · have hy : whyF xs base = 0 := by rw [hwy, hy0]
    clear hwy hy0 HNo
    obtain ⟨n, hn⟩ : ∃ n, tabsF 1 0 0 xs = n := ⟨_, rfl⟩
    have hn4 : n ≤ 1024 := by have := (why_zero hy).2.2.1; omega
    have hr := (why_zero hy).1
    obtain ⟨M, hM⟩ : ∃ M, bldM xs base = M := ⟨_, rfl⟩
    obtain ⟨R, hR⟩ : ∃ R, runsF [] xs = R := ⟨_, rfl⟩
    have hRg := runs_ok hr
    rw [hR] at hRg
    obtain ⟨rr, ru, rl⟩ := hRg
    have HRok : Hid (∀ x ∈ R, L6.ok x) := fun x hx => (alone_ok (refu_all rr x hx)).1
    have HBy : Hid (∀ W, Lv W (.slice ao L cap) xs → Calls Try.prog 13 #[.slice ao L cap, .int .u64 (base : Int)] W fun e w' => ∃ G, e = .returned (.tuple #[.slice (some ⟨G, 0, none⟩) n n, .int .i64 0]) ∧ GAt w' G n M ∧ W.heap.size ≤ G ∧ Below W.heap.size W w') := fun W hW => by
      have h5 := build_yes hW hb hy hn
      rw [hM] at h5
      exact h5
    have HFw : Hid (∀ W, Lv W (.slice ao L cap) xs → Calls Try.prog 7 #[.slice ao L cap] W (FewP L W)) := fun W hW => by
      have h5 := few_any hW (fun x hx => (alone_ok (refu_all hr x hx)).2)
      rw [hL] at h5
      exact h5
    have HRn : Hid (L ≤ 20000 → ∀ W, Lv W (.slice ao L cap) xs → Calls Try.prog 14 #[.slice ao L cap] W fun e w' => ∃ u, e = .returned u ∧ OwnL w' W.heap.size u R ∧ Below W.heap.size W w') := fun hl W hW => by
      have h5 := runs_any hW (by omega)
      rw [if_neg (by omega), hR] at h5
      exact h5
    have HBr : Hid (∀ W u, Lv W u R → Calls Try.prog 13 #[u, .int .u64 (base : Int)] W fun e w' => ∃ G, e = .returned (.tuple #[.slice (some ⟨G, 0, none⟩) n n, .int .i64 0]) ∧ GAt w' G n M ∧ W.heap.size ≤ G ∧ Below W.heap.size W w') := fun W u hW => by
      obtain ⟨a1, a2, a3⟩ := why_same hy rr ru
      have h5 := build_yes hW hb a1 (a2.trans hn)
      rw [a3, hM] at h5
      exact h5
    have HCr : Hid (∀ W u, Lv W u R → Calls Try.prog 15 #[u] W fun e w' => e = .returned (.tuple #[.int .i64 (n : Int), .int .i64 0]) ∧ Below W.heap.size W w') := fun W u hW => by
      have h5 := count_any hW
      rw [count_same hy rr ru, hn] at h5
      exact h5
    have HRr : Hid (L ≤ 20000 → ∀ W u, Lv W u R → Calls Try.prog 14 #[u] W fun e w' => ∃ u', e = .returned u' ∧ OwnL w' W.heap.size u' R ∧ Below W.heap.size W w') := fun hl W u hW => by
      have h5 := runs_any hW (by omega)
      rw [if_neg (by omega), ← hR, runs_twice, hR] at h5
      exact h5
    have HEb : Hid (∀ W u, Lv W u (eachF xs) → Calls Try.prog 13 #[u, .int .u64 (base : Int)] W fun e w' => ∃ G, e = .returned (.tuple #[.slice (some ⟨G, 0, none⟩) n n, .int .i64 0]) ∧ GAt w' G n M ∧ W.heap.size ≤ G ∧ Below W.heap.size W w') := fun W u hW => by
      obtain ⟨b1, b2⟩ := each_ok hr
      obtain ⟨a1, a2, a3⟩ := why_same hy b1 b2
      have h5 := build_yes hW hb a1 (a2.trans hn)
      rw [a3, hM] at h5
      exact h5
    have HEr : Hid (∀ W u, (eachF xs).length ≤ 1000000 → Lv W u (eachF xs) → Calls Try.prog 14 #[u] W fun e w' => ∃ u', e = .returned u' ∧ OwnL w' W.heap.size u' R ∧ Below W.heap.size W w') := fun W u hl hW => by
      have h5 := runs_any hW hl
      rw [if_neg (by have := (each_ok hr).1; omega), runs_each0 hr, hR] at h5
      exact h5
    have HEok : Hid (∀ x ∈ eachF xs, L6.ok x) := fun x hx => (alone_ok (refu_all (each_ok hr).1 x hx)).1
    have HTr : Hid (∀ W G, GAt W G n M → Calls Try.prog 18 #[.slice (some ⟨G, 0, none⟩) n n, .int .u64 (base : Int)] W fun e w' => e = .returned (.bool true) ∧ Below W.heap.size W w') := fun W G hG => alike_tree hy hn (by rw [hM]; exact hG)
    have HXa : Hid (∀ x ∈ xs, aloneF x = 0) := refu_all hr
    clear hy hn hM hR rr ru rl hr hL hb
    go_wp2_with fail
    refine (HBy.out _ (HR.out.below HB2.out)).mono ?_
    rintro e w3 ⟨G, rfl, hg3, hGl, hb3⟩
    have HB3 := Lib.hid (HB2.out.trans (hb3.mono HB2.out.size))
    have HG3 := Lib.hid hg3
    clear hg3 hGl hb3 HB2 HBy
    go_wp2_with fail
    refine (HFw.out _ (HR.out.below HB3.out)).mono ?_
    rintro e w4 ⟨bf, rfl, hfew, hb4⟩
    have HB4 := Lib.hid (HB3.out.trans (hb4.mono HB3.out.size))
    have HG4 := Lib.hid (HG3.out.below hb4)
    clear hb4 HB3 HG3 HFw
    cases bf with
    | false =>
      clear hfew
      go_wp2_with fail
      go_ret
      exact ⟨rfl, HB4.out⟩
    | true =>
      have hL2 := hfew rfl
      clear hfew
      go_wp2_with fail
      refine (HRn.out hL2 _ (HR.out.below HB4.out)).mono ?_
      rintro e w5 ⟨u, rfl, ho5, hb5⟩
      have HB5 := Lib.hid (HB4.out.trans (hb5.mono HB4.out.size))
      have HG5 := Lib.hid (HG4.out.below hb5)
      obtain ⟨ra, rc, hu⟩ := ho5.form
      subst hu
      obtain ⟨lr, hlr⟩ : ∃ l, R.length = l := ⟨_, rfl⟩
      have HO5 := Lib.hid (ho5.lv HRok.out)
      rw [hlr] at HO5 ⊢
      clear ho5 hb5 HB4 HG4 HRn hlr
      go_wp2_with fail
      refine (HBr.out _ _ HO5.out).mono ?_
      rintro e w6 ⟨G6, rfl, hg6, _, hb6⟩
      have HB6 := Lib.hid (HB5.out.trans (hb6.mono HB5.out.size))
      have HG6 := Lib.hid (HG5.out.below hb6)
      have HO6 := Lib.hid (HO5.out.below hb6)
      have HK6 := Lib.hid hg6
      clear hg6 hb6 HB5 HG5 HO5
      go_wp2_with fail
      refine (HCr.out _ _ HO6.out).mono ?_
      rintro e w7 ⟨rfl, hb7⟩
      have HB7 := Lib.hid (HB6.out.trans (hb7.mono HB6.out.size))
      have HG7 := Lib.hid (HG6.out.below hb7)
      have HO7 := Lib.hid (HO6.out.below hb7)
      have HK7 := Lib.hid (HK6.out.below hb7)
      clear hb7 HB6 HG6 HO6 HK6
      go_wp2_with fail
      refine (sameT_yes HK7.out HG7.out hn4).mono ?_
      rintro e w8 ⟨rfl, hb8⟩
      have HB8 := Lib.hid (HB7.out.trans (hb8.mono HB7.out.size))
      have HG8 := Lib.hid (HG7.out.below hb8)
      have HO8 := Lib.hid (HO7.out.below hb8)
      clear hb8 HB7 HG7 HO7 HK7
      go_wp2_with fail
      refine (HRr.out hL2 _ _ HO8.out).mono ?_
      rintro e w9 ⟨u9, rfl, ho9, hb9⟩
      have HB9 := Lib.hid (HB8.out.trans (hb9.mono HB8.out.size))
      have HG9 := Lib.hid (HG8.out.below hb9)
      have HO9 := Lib.hid (HO8.out.below hb9)
      have HU9 := Lib.hid (ho9.lv HRok.out)
      clear ho9 hb9 HB8 HG8 HO8
      go_wp2_with fail
      refine (sameL_yes HU9.out HO9.out).mono ?_
      rintro e w10 ⟨rfl, hb10⟩
      have HB10 := Lib.hid (HB9.out.trans (hb10.mono HB9.out.size))
      have HG10 := Lib.hid (HG9.out.below hb10)
      have HO10 := Lib.hid (HO9.out.below hb10)
      clear hb10 HB9 HG9 HO9 HU9
      go_upto_region 12 with fail
      go_wp2_with fail
      have HE0 : Hid (Below w10.heap.size w10 w10) := Below.refl _ _
      go_loopw [13, 14] (fun ev iv wr => ∃ (i : Nat) (ea : Option Addr) (ec : Nat) (acc : List L6), i ≤ L ∧ iv = .int .i64 (i : Int) ∧ ev = .slice ea acc.length ec ∧ acc.length ≤ 3000 ∧ Hid (acc.length < 3000 → acc = eachF (xs.take i)) ∧ Hid (OwnL wr w10.heap.size (.slice ea acc.length ec) acc) ∧ Hid (Below w10.heap.size w10 wr)) (fun _ iv _ => L - (intOf iv).toNat)
      case atStart => exact ⟨0, none, 0, [], by omega, rfl, rfl, by simp, (fun _ => rfl), OwnL.nil _ _, HE0⟩
      case round =>
        clear HE0
        obtain ⟨i, ea, ec, acc, hi, rfl, rfl, hac, HA, HO, HB⟩ := hrel
        by_cases hin : i < L
        · have hix : i < xs.length := by rw [HN.out]; exact hin
          have ji : (i : Int) < (L : Int) := by omega
          have wi : IntKind.i64.wrap ((i : Int) + 1) = ((i + 1 : Nat) : Int) := by rw [IntKind.wrap_i64]; omega
          have HRW : Hid (∀ W, Below w10.heap.size w10 W → Lv W (.slice ao L cap) xs) := fun W hW => (HR.out.below HB10.out).below hW
          have hxa := HXa.out xs[i] (List.getElem_mem _)
          have HEt : Hid (eachF (xs.take (i + 1)) = eachF (xs.take i) ++ eachN xs[i] 0 (cntU xs[i])) := eachF_take hix
          have HCl : Hid (∀ W, Below w10.heap.size w10 W → ∃ b o, ao = some ⟨b, o, none⟩ ∧ W.cell? ⟨b, o + i * 6, none⟩ = some (.int .u64 (xs[i].v : Int)) ∧ W.cell? ⟨b, o + i * 6 + 1, none⟩ = some (.int .u64 (xs[i].p : Int)) ∧ W.cell? ⟨b, o + i * 6 + 2, none⟩ = some (.int .i64 xs[i].n) ∧ W.cell? ⟨b, o + i * 6 + 3, none⟩ = some (.bool xs[i].big) ∧ W.cell? ⟨b, o + i * 6 + 4, none⟩ = some (.bool xs[i].wr) ∧ W.cell? ⟨b, o + i * 6 + 5, none⟩ = some (.bool xs[i].ex)) := fun W hW => by
            obtain ⟨_, _, e', _, _, _, hc⟩ := HRW.out W hW
            simp only [Value.slice.injEq] at e'
            obtain ⟨rfl, e9, rfl⟩ := e'
            exact hc i hix
          obtain ⟨E0, hE0⟩ : ∃ E0, eachF (xs.take i) = E0 := ⟨_, rfl⟩
          rw [hE0] at HEt HA
          clear hE0 HRW
          generalize xs[i] = x at *
          obtain ⟨z1, z2, z3, z4, z5, z6⟩ := aloneF_zero hxa
          obtain ⟨hcm, hc1⟩ := cntU_mul hxa
          have HUa : Hid (∀ k, rowU (unitAt x k) = ⟨x.v + k * unitF x, x.p + k * unitF x, ((unitF x / 4096 : Nat) : Int), x.big, x.wr, x.ex⟩) := fun k => rfl
          obtain ⟨C, hC⟩ : ∃ C, cntU x = C := ⟨_, rfl⟩
          obtain ⟨EN, hEN⟩ : ∃ EN : Nat → List L6, ∀ k : Nat, eachN x 0 k = EN k := ⟨fun k => eachN x 0 k, fun _ => rfl⟩
          have HS : Hid (∀ k, EN (k + 1) = EN k ++ [rowU (unitAt x k)]) := fun k => by rw [← hEN, ← hEN, eachN_snoc, Nat.zero_add]
          have HE00 : Hid (EN 0 = []) := by rw [← hEN]; rfl
          rw [hC, hEN] at HEt
          rw [hC] at hcm hc1
          clear hC hEN hxa
          obtain ⟨xv, xp, xn, xb, xw, xe⟩ := x
          simp only at z1 z4 z5 HCl
          obtain ⟨m, rfl⟩ : ∃ m : Nat, xn = (m : Int) := ⟨xn.toNat, by omega⟩
          have z4 : xv + m * 4096 ≤ 549755813888 := z4
          have z5 : xp + m * 4096 ≤ 4294967296 := z5
          have hcm : C * unitF ⟨xv, xp, (m : Int), xb, xw, xe⟩ = m * 4096 := hcm
          clear z1 z2 z3 z6
          cases xb with
          | true =>
            have hU : unitF ⟨xv, xp, (m : Int), true, xw, xe⟩ = 2097152 := rfl
            rw [hU] at hcm HUa
            have hCm : C * 512 = m := by omega
            have HUa : Hid (∀ k, rowU (unitAt ⟨xv, xp, (m : Int), true, xw, xe⟩ k) = ⟨xv + k * 512 * 4096, xp + k * 512 * 4096, 512, true, xw, xe⟩) := fun k => by
              rw [HUa.out k, Nat.mul_assoc]
              rfl
            have HCm := Lib.hid hCm
            clear hU hcm hCm
            obtain ⟨b, of, hao, c0, c1, c2, c3, c4, c5⟩ := HCl.out wr HB.out
            subst hao
            have HCl : Hid (∀ W, Below w10.heap.size w10 W → W.cell? ⟨b, of + i * 6, none⟩ = some (.int .u64 (xv : Int)) ∧ W.cell? ⟨b, of + i * 6 + 1, none⟩ = some (.int .u64 (xp : Int)) ∧ W.cell? ⟨b, of + i * 6 + 2, none⟩ = some (.int .i64 (m : Int)) ∧ W.cell? ⟨b, of + i * 6 + 3, none⟩ = some (.bool true) ∧ W.cell? ⟨b, of + i * 6 + 4, none⟩ = some (.bool xw) ∧ W.cell? ⟨b, of + i * 6 + 5, none⟩ = some (.bool xe)) := fun W hW => by
              obtain ⟨b', o', e', d⟩ := HCl.out W hW
              simp only [Option.some.injEq, Addr.mk.injEq] at e'
              obtain ⟨rfl, rfl, _⟩ := e'
              exact d
            have HA0 : Hid (acc.length < 3000 → acc = E0 ++ EN 0) := fun hl => by rw [HE00.out, List.append_nil]; exact HA.out hl
            clear HA HE00 c0 c1 c2 c4 c5
            go_upto_region 19 with fail
            go_wp2_with fail
            clear c3
            go_loopw [13, 16] (fun ev jv wr => ∃ (c j : Nat) (ea : Option Addr) (ec : Nat) (acc : List L6), c ≤ C ∧ jv = .int .i64 (j : Int) ∧ Hid (j = c * 512) ∧ j ≤ m ∧ ev = .slice ea acc.length ec ∧ acc.length ≤ 3000 ∧ Hid (acc.length < 3000 → acc = E0 ++ EN c) ∧ Hid (OwnL wr w10.heap.size (.slice ea acc.length ec) acc) ∧ Hid (Below w10.heap.size w10 wr)) (fun _ jv _ => m - (intOf jv).toNat)
            case atStart => exact ⟨0, 0, ea, ec, acc, by omega, rfl, Lib.hid (Nat.zero_mul _).symm, by omega, rfl, hac, HA0, HO, HB⟩
            case round =>
              clear HA0 HO HB hac
              obtain ⟨c, j, ea, ec, acc, hc, rfl, HJ, hjm, rfl, hac, HA, HO, HB⟩ := hrel
              obtain ⟨c0, c1, c2, c3, c4, c5⟩ := HCl.out _ HB.out
              by_cases hj : j < m
              · have jj : (j : Int) < (m : Int) := by omega
                by_cases hl : acc.length < 3000
                · have jl : (acc.length : Int) < 3000 := by omega
                  have hcC : c < C := by
                    have h2 := HCm.out
                    have h3 := HJ.out
                    omega
                  have hj2 : j + 512 ≤ m := by
                    have h2 := HCm.out
                    have h3 := HJ.out
                    omega
                  have HL := Lib.hid (LfAt.new' wr ⟨xv, xp, (m : Int), true, xw, xe⟩)
                  have HBl := Lib.hid (lf_below' wr ⟨xv, xp, (m : Int), true, xw, xe⟩)
                  have HXw : Hid (w10.heap.size ≤ wr.heap.size) := HB.out.size
                  have HB1 := Lib.hid (HB.out.trans (HBl.out.mono HB.out.size))
                  have HO1 := Lib.hid (HO.out.below HBl.out)
                  have HOb : Hid (∀ k, (Value.slice ea acc.length ec).ownBlock = some k → k ≠ wr.heap.size) := fun k hk => Nat.ne_of_lt (HO.out.lt k hk).2
                  simp only at HL HBl HB1 HO1
                  obtain ⟨K, hK⟩ : ∃ K, j * 4096 = K := ⟨_, rfl⟩
                  have wj : IntKind.u64.wrap (j : Int) = (j : Int) := by rw [IntKind.wrap_u64]; omega
                  have wK : IntKind.u64.wrap ((j : Int) * 4096) = (K : Int) := by rw [IntKind.wrap_u64]; omega
                  obtain ⟨v', hv'⟩ : ∃ v', xv + K = v' := ⟨_, rfl⟩
                  obtain ⟨p', hp'⟩ : ∃ p', xp + K = p' := ⟨_, rfl⟩
                  have wv : IntKind.u64.wrap ((xv : Int) + (K : Int)) = (v' : Int) := by rw [IntKind.wrap_u64]; omega
                  have wp : IntKind.u64.wrap ((xp : Int) + (K : Int)) = (p' : Int) := by rw [IntKind.wrap_u64]; omega
                  have wjs : IntKind.i64.wrap ((j : Int) + 512) = ((j + 512 : Nat) : Int) := by rw [IntKind.wrap_i64]; omega
                  have HJ2 : Hid (j + 512 = (c + 1) * 512) := Lib.hid (by rw [HJ.out]; omega)
                  have HY : Hid (E0 ++ EN (c + 1) = E0 ++ EN c ++ [⟨v', p', 512, true, xw, xe⟩]) := Lib.hid (by
                    rw [HS.out c, HUa.out c, ← HJ.out, hK, hv', hp', List.append_assoc])
                  have HAc := Lib.hid (HA.out hl)
                  clear hK hv' hp' HJ HA HB HO HBl
                  go_upto_region 23 with fail
                  generalize (wr.alloc (.cells #[.int .u64 (xv : Int), .int .u64 (xp : Int), .int .i64 (m : Int), .bool true, .bool xw, .bool xe] 34)) = y1 at *
                  generalize wr.heap.size = X at *
                  clear c0 c1 c2 c3 c4 c5
                  obtain ⟨d0, d1, d2, d3, d4, d5⟩ := HL.out.cells
                  simp only at d0 d1 d2 d3 d4 d5
                  have df := HL.out.free 0
                  have HL2 : Hid (LfAt (y1.setCell ⟨X, 0, none⟩ (.int .u64 (v' : Int))) X ⟨v', xp, (m : Int), true, xw, xe⟩) := HL.out.set0
                  have HB2 : Hid (Below w10.heap.size w10 (y1.setCell ⟨X, 0, none⟩ (.int .u64 (v' : Int)))) := HB1.out.setCell HXw.out _
                  have HO2 : Hid (OwnL (y1.setCell ⟨X, 0, none⟩ (.int .u64 (v' : Int))) w10.heap.size (.slice ea acc.length ec) acc) := HO1.out.keeps (Keeps.setCell y1 X 0 _) HOb.out
                  go_upto_region 24 with fail
                  generalize (y1.setCell ⟨X, 0, none⟩ (.int .u64 (v' : Int))) = y2 at *
                  clear d0 d1 d2 d3 d4 d5 df HL HB1 HO1
                  obtain ⟨d0, d1, d2, d3, d4, d5⟩ := HL2.out.cells
                  simp only at d0 d1 d2 d3 d4 d5
                  have df := HL2.out.free 1
                  have HL3 : Hid (LfAt (y2.setCell ⟨X, 1, none⟩ (.int .u64 (p' : Int))) X ⟨v', p', (m : Int), true, xw, xe⟩) := HL2.out.set1
                  have HB3 : Hid (Below w10.heap.size w10 (y2.setCell ⟨X, 1, none⟩ (.int .u64 (p' : Int)))) := HB2.out.setCell HXw.out _
                  have HO3 : Hid (OwnL (y2.setCell ⟨X, 1, none⟩ (.int .u64 (p' : Int))) w10.heap.size (.slice ea acc.length ec) acc) := HO2.out.keeps (Keeps.setCell y2 X 1 _) HOb.out
                  go_upto_region 25 with fail
                  generalize (y2.setCell ⟨X, 1, none⟩ (.int .u64 (p' : Int))) = y3 at *
                  clear d0 d1 d2 d3 d4 d5 df HL2 HB2 HO2
                  have df := HL3.out.free 2
                  obtain ⟨d0, d1, d2, d3, d4, d5⟩ := HL3.out.cells
                  simp only at d0 d1 d2 d3 d4 d5
                  have HL4 : Hid (LfAt (y3.setCell ⟨X, 2, none⟩ (.int .i64 512)) X ⟨v', p', 512, true, xw, xe⟩) := HL3.out.set2
                  have HB4 : Hid (Below w10.heap.size w10 (y3.setCell ⟨X, 2, none⟩ (.int .i64 512))) := HB3.out.setCell HXw.out _
                  have HO4 : Hid (OwnL (y3.setCell ⟨X, 2, none⟩ (.int .i64 512)) w10.heap.size (.slice ea acc.length ec) acc) := HO3.out.keeps (Keeps.setCell y3 X 2 _) HOb.out
                  go_upto_region 26 with fail
                  generalize (y3.setCell ⟨X, 2, none⟩ (.int .i64 512)) = y4 at *
                  clear d0 d1 d2 d3 d4 d5 df HL3 HB3 HO3
                  obtain ⟨d0, d1, d2, d3, d4, d5⟩ := HL4.out.cells
                  simp only at d0 d1 d2 d3 d4 d5
                  have HOA := Lib.hid (HO4.out.below (lf_below' y4 ⟨v', p', 512, true, xw, xe⟩))
                  have HBK : Hid ((y4.alloc (.cells #[.int .u64 (v' : Int), .int .u64 (p' : Int), .int .i64 512, .bool true, .bool xw, .bool xe] 34)).heap[y4.heap.size]? = some (.cells (encL ⟨v', p', 512, true, xw, xe⟩).toArray 34 (0, 0))) := heap_alloc_new y4 _
                  have HBA := Lib.hid (HB4.out.trans ((lf_below' y4 ⟨v', p', 512, true, xw, xe⟩).mono HB4.out.size))
                  have HLy : Hid ((acc.length + 1) * 60 ≤ 140737488355328) := show (acc.length + 1) * 60 ≤ 140737488355328 by omega
                  simp only at HOA HBA
                  go_wp2_with (at_builtin; refine wpList_appendL6 (xs := acc) (base := w10.heap.size) rfl (.tmp 131) (.tmp 133) rfl HOA.out rfl rfl HBK.out HLy.out HBA.out.size ?_; intro v2 w2 HO2 HG2 HL2; obtain ⟨va2, vc2, hv2⟩ := HO2.out.form; subst hv2)
                  have HB5 : Hid (Below w10.heap.size w10 w2) := HBA.out.grown HG2.out HBA.out.size (fun k e => (HOA.out.lt k e).1)
                  have HA2 : Hid ((acc ++ [(⟨v', p', 512, true, xw, xe⟩ : L6)]).length < 3000 → acc ++ [(⟨v', p', 512, true, xw, xe⟩ : L6)] = E0 ++ EN (c + 1)) := fun _ => by rw [HY.out, HAc.out]
                  go_roundw
                  case rel => exact ⟨c + 1, j + 512, va2, vc2, acc ++ [⟨v', p', 512, true, xw, xe⟩], by omega, rfl, HJ2, by omega, (by simp), by simp; omega, HA2, HO2, HB5⟩
                  case measure => simp [intOf]; omega
                · have jl : ¬ (acc.length : Int) < 3000 := by omega
                  have HA3 : Hid (acc.length < 3000 → acc = eachF (xs.take (i + 1))) := fun h5 => absurd h5 hl
                  clear HA
                  go_wp2_with fail
                  go_roundw
                  case rel => exact ⟨i + 1, ea, ec, acc, by omega, rfl, rfl, hac, HA3, HO, HB⟩
                  case measure => simp [intOf]; omega
              · have jj : ¬ (j : Int) < (m : Int) := by omega
                have hcC : c = C := by
                  have h2 := HCm.out
                  have h3 := HJ.out
                  omega
                have HA3 : Hid (acc.length < 3000 → acc = eachF (xs.take (i + 1))) := fun h5 => by rw [HEt.out, ← hcC]; exact HA.out h5
                clear HA hcC
                go_wp2_with fail
                go_roundw
                case rel => exact ⟨i + 1, ea, ec, acc, by omega, rfl, rfl, hac, HA3, HO, HB⟩
                case measure => simp [intOf]; omega
          | false =>
            have hU : unitF ⟨xv, xp, (m : Int), false, xw, xe⟩ = 4096 := rfl
            rw [hU] at hcm HUa
            have hCm : C * 1 = m := by omega
            have HUa : Hid (∀ k, rowU (unitAt ⟨xv, xp, (m : Int), false, xw, xe⟩ k) = ⟨xv + k * 1 * 4096, xp + k * 1 * 4096, 1, false, xw, xe⟩) := fun k => by
              rw [HUa.out k, Nat.mul_assoc]
              rfl
            have HCm := Lib.hid hCm
            clear hU hcm hCm
            obtain ⟨b, of, hao, c0, c1, c2, c3, c4, c5⟩ := HCl.out wr HB.out
            subst hao
            have HCl : Hid (∀ W, Below w10.heap.size w10 W → W.cell? ⟨b, of + i * 6, none⟩ = some (.int .u64 (xv : Int)) ∧ W.cell? ⟨b, of + i * 6 + 1, none⟩ = some (.int .u64 (xp : Int)) ∧ W.cell? ⟨b, of + i * 6 + 2, none⟩ = some (.int .i64 (m : Int)) ∧ W.cell? ⟨b, of + i * 6 + 3, none⟩ = some (.bool false) ∧ W.cell? ⟨b, of + i * 6 + 4, none⟩ = some (.bool xw) ∧ W.cell? ⟨b, of + i * 6 + 5, none⟩ = some (.bool xe)) := fun W hW => by
              obtain ⟨b', o', e', d⟩ := HCl.out W hW
              simp only [Option.some.injEq, Addr.mk.injEq] at e'
              obtain ⟨rfl, rfl, _⟩ := e'
              exact d
            have HA0 : Hid (acc.length < 3000 → acc = E0 ++ EN 0) := fun hl => by rw [HE00.out, List.append_nil]; exact HA.out hl
            clear HA HE00 c0 c1 c2 c4 c5
            go_upto_region 19 with fail
            go_wp2_with fail
            clear c3
            go_loopw [13, 16] (fun ev jv wr => ∃ (c j : Nat) (ea : Option Addr) (ec : Nat) (acc : List L6), c ≤ C ∧ jv = .int .i64 (j : Int) ∧ Hid (j = c * 1) ∧ j ≤ m ∧ ev = .slice ea acc.length ec ∧ acc.length ≤ 3000 ∧ Hid (acc.length < 3000 → acc = E0 ++ EN c) ∧ Hid (OwnL wr w10.heap.size (.slice ea acc.length ec) acc) ∧ Hid (Below w10.heap.size w10 wr)) (fun _ jv _ => m - (intOf jv).toNat)
            case atStart => exact ⟨0, 0, ea, ec, acc, by omega, rfl, Lib.hid (Nat.zero_mul _).symm, by omega, rfl, hac, HA0, HO, HB⟩
            case round =>
              clear HA0 HO HB hac
              obtain ⟨c, j, ea, ec, acc, hc, rfl, HJ, hjm, rfl, hac, HA, HO, HB⟩ := hrel
              obtain ⟨c0, c1, c2, c3, c4, c5⟩ := HCl.out _ HB.out
              by_cases hj : j < m
              · have jj : (j : Int) < (m : Int) := by omega
                by_cases hl : acc.length < 3000
                · have jl : (acc.length : Int) < 3000 := by omega
                  have hcC : c < C := by
                    have h2 := HCm.out
                    have h3 := HJ.out
                    omega
                  have hj2 : j + 1 ≤ m := by
                    have h2 := HCm.out
                    have h3 := HJ.out
                    omega
                  have HL := Lib.hid (LfAt.new' wr ⟨xv, xp, (m : Int), false, xw, xe⟩)
                  have HBl := Lib.hid (lf_below' wr ⟨xv, xp, (m : Int), false, xw, xe⟩)
                  have HXw : Hid (w10.heap.size ≤ wr.heap.size) := HB.out.size
                  have HB1 := Lib.hid (HB.out.trans (HBl.out.mono HB.out.size))
                  have HO1 := Lib.hid (HO.out.below HBl.out)
                  have HOb : Hid (∀ k, (Value.slice ea acc.length ec).ownBlock = some k → k ≠ wr.heap.size) := fun k hk => Nat.ne_of_lt (HO.out.lt k hk).2
                  simp only at HL HBl HB1 HO1
                  obtain ⟨K, hK⟩ : ∃ K, j * 4096 = K := ⟨_, rfl⟩
                  have wj : IntKind.u64.wrap (j : Int) = (j : Int) := by rw [IntKind.wrap_u64]; omega
                  have wK : IntKind.u64.wrap ((j : Int) * 4096) = (K : Int) := by rw [IntKind.wrap_u64]; omega
                  obtain ⟨v', hv'⟩ : ∃ v', xv + K = v' := ⟨_, rfl⟩
                  obtain ⟨p', hp'⟩ : ∃ p', xp + K = p' := ⟨_, rfl⟩
                  have wv : IntKind.u64.wrap ((xv : Int) + (K : Int)) = (v' : Int) := by rw [IntKind.wrap_u64]; omega
                  have wp : IntKind.u64.wrap ((xp : Int) + (K : Int)) = (p' : Int) := by rw [IntKind.wrap_u64]; omega
                  have wjs : IntKind.i64.wrap ((j : Int) + 1) = ((j + 1 : Nat) : Int) := by rw [IntKind.wrap_i64]; omega
                  have HJ2 : Hid (j + 1 = (c + 1) * 1) := Lib.hid (by rw [HJ.out]; omega)
                  have HY : Hid (E0 ++ EN (c + 1) = E0 ++ EN c ++ [⟨v', p', 1, false, xw, xe⟩]) := Lib.hid (by
                    rw [HS.out c, HUa.out c, ← HJ.out, hK, hv', hp', List.append_assoc])
                  have HAc := Lib.hid (HA.out hl)
                  clear hK hv' hp' HJ HA HB HO HBl
                  go_upto_region 23 with fail
                  generalize (wr.alloc (.cells #[.int .u64 (xv : Int), .int .u64 (xp : Int), .int .i64 (m : Int), .bool false, .bool xw, .bool xe] 34)) = y1 at *
                  generalize wr.heap.size = X at *
                  clear c0 c1 c2 c3 c4 c5
                  obtain ⟨d0, d1, d2, d3, d4, d5⟩ := HL.out.cells
                  simp only at d0 d1 d2 d3 d4 d5
                  have df := HL.out.free 0
                  have HL2 : Hid (LfAt (y1.setCell ⟨X, 0, none⟩ (.int .u64 (v' : Int))) X ⟨v', xp, (m : Int), false, xw, xe⟩) := HL.out.set0
                  have HB2 : Hid (Below w10.heap.size w10 (y1.setCell ⟨X, 0, none⟩ (.int .u64 (v' : Int)))) := HB1.out.setCell HXw.out _
                  have HO2 : Hid (OwnL (y1.setCell ⟨X, 0, none⟩ (.int .u64 (v' : Int))) w10.heap.size (.slice ea acc.length ec) acc) := HO1.out.keeps (Keeps.setCell y1 X 0 _) HOb.out
                  go_upto_region 24 with fail
                  generalize (y1.setCell ⟨X, 0, none⟩ (.int .u64 (v' : Int))) = y2 at *
                  clear d0 d1 d2 d3 d4 d5 df HL HB1 HO1
                  obtain ⟨d0, d1, d2, d3, d4, d5⟩ := HL2.out.cells
                  simp only at d0 d1 d2 d3 d4 d5
                  have df := HL2.out.free 1
                  have HL3 : Hid (LfAt (y2.setCell ⟨X, 1, none⟩ (.int .u64 (p' : Int))) X ⟨v', p', (m : Int), false, xw, xe⟩) := HL2.out.set1
                  have HB3 : Hid (Below w10.heap.size w10 (y2.setCell ⟨X, 1, none⟩ (.int .u64 (p' : Int)))) := HB2.out.setCell HXw.out _
                  have HO3 : Hid (OwnL (y2.setCell ⟨X, 1, none⟩ (.int .u64 (p' : Int))) w10.heap.size (.slice ea acc.length ec) acc) := HO2.out.keeps (Keeps.setCell y2 X 1 _) HOb.out
                  go_upto_region 25 with fail
                  generalize (y2.setCell ⟨X, 1, none⟩ (.int .u64 (p' : Int))) = y3 at *
                  clear d0 d1 d2 d3 d4 d5 df HL2 HB2 HO2
                  have df := HL3.out.free 2
                  obtain ⟨d0, d1, d2, d3, d4, d5⟩ := HL3.out.cells
                  simp only at d0 d1 d2 d3 d4 d5
                  have HL4 : Hid (LfAt (y3.setCell ⟨X, 2, none⟩ (.int .i64 1)) X ⟨v', p', 1, false, xw, xe⟩) := HL3.out.set2
                  have HB4 : Hid (Below w10.heap.size w10 (y3.setCell ⟨X, 2, none⟩ (.int .i64 1))) := HB3.out.setCell HXw.out _
                  have HO4 : Hid (OwnL (y3.setCell ⟨X, 2, none⟩ (.int .i64 1)) w10.heap.size (.slice ea acc.length ec) acc) := HO3.out.keeps (Keeps.setCell y3 X 2 _) HOb.out
                  go_upto_region 26 with fail
                  generalize (y3.setCell ⟨X, 2, none⟩ (.int .i64 1)) = y4 at *
                  clear d0 d1 d2 d3 d4 d5 df HL3 HB3 HO3
                  obtain ⟨d0, d1, d2, d3, d4, d5⟩ := HL4.out.cells
                  simp only at d0 d1 d2 d3 d4 d5
                  have HOA := Lib.hid (HO4.out.below (lf_below' y4 ⟨v', p', 1, false, xw, xe⟩))
                  have HBK : Hid ((y4.alloc (.cells #[.int .u64 (v' : Int), .int .u64 (p' : Int), .int .i64 1, .bool false, .bool xw, .bool xe] 34)).heap[y4.heap.size]? = some (.cells (encL ⟨v', p', 1, false, xw, xe⟩).toArray 34 (0, 0))) := heap_alloc_new y4 _
                  have HBA := Lib.hid (HB4.out.trans ((lf_below' y4 ⟨v', p', 1, false, xw, xe⟩).mono HB4.out.size))
                  have HLy : Hid ((acc.length + 1) * 60 ≤ 140737488355328) := show (acc.length + 1) * 60 ≤ 140737488355328 by omega
                  simp only at HOA HBA
                  go_wp2_with (at_builtin; refine wpList_appendL6 (xs := acc) (base := w10.heap.size) rfl (.tmp 131) (.tmp 133) rfl HOA.out rfl rfl HBK.out HLy.out HBA.out.size ?_; intro v2 w2 HO2 HG2 HL2; obtain ⟨va2, vc2, hv2⟩ := HO2.out.form; subst hv2)
                  have HB5 : Hid (Below w10.heap.size w10 w2) := HBA.out.grown HG2.out HBA.out.size (fun k e => (HOA.out.lt k e).1)
                  have HA2 : Hid ((acc ++ [(⟨v', p', 1, false, xw, xe⟩ : L6)]).length < 3000 → acc ++ [(⟨v', p', 1, false, xw, xe⟩ : L6)] = E0 ++ EN (c + 1)) := fun _ => by rw [HY.out, HAc.out]
                  go_roundw
                  case rel => exact ⟨c + 1, j + 1, va2, vc2, acc ++ [⟨v', p', 1, false, xw, xe⟩], by omega, rfl, HJ2, by omega, (by simp), by simp; omega, HA2, HO2, HB5⟩
                  case measure => simp [intOf]; omega
                · have jl : ¬ (acc.length : Int) < 3000 := by omega
                  have HA3 : Hid (acc.length < 3000 → acc = eachF (xs.take (i + 1))) := fun h5 => absurd h5 hl
                  clear HA
                  go_wp2_with fail
                  go_roundw
                  case rel => exact ⟨i + 1, ea, ec, acc, by omega, rfl, rfl, hac, HA3, HO, HB⟩
                  case measure => simp [intOf]; omega
              · have jj : ¬ (j : Int) < (m : Int) := by omega
                have hcC : c = C := by
                  have h2 := HCm.out
                  have h3 := HJ.out
                  omega
                have HA3 : Hid (acc.length < 3000 → acc = eachF (xs.take (i + 1))) := fun h5 => by rw [HEt.out, ← hcC]; exact HA.out h5
                clear HA hcC
                go_wp2_with fail
                go_roundw
                case rel => exact ⟨i + 1, ea, ec, acc, by omega, rfl, rfl, hac, HA3, HO, HB⟩
                case measure => simp [intOf]; omega
        · have ji : ¬ (i : Int) < (L : Int) := by omega
          have hiL : i = L := by omega
          have HAe : Hid (acc.length < 3000 → acc = eachF xs) := fun hl => by
            have h5 := HA.out hl
            rw [hiL, ← HN.out, List.take_length] at h5
            exact h5
          have HGw := Lib.hid (HG10.out.below HB.out)
          have HOw := Lib.hid (HO10.out.below HB.out)
          have HBw := Lib.hid (HB10.out.trans (HB.out.mono HB10.out.size))
          clear HA hiL
          by_cases hl : acc.length < 3000
          · have jl : (acc.length : Int) < 3000 := by omega
            have hacc := HAe.out hl
            subst hacc
            have HV := Lib.hid (HO.out.lv HEok.out)
            have hlen : (eachF xs).length ≤ 1000000 := by omega
            have HLn := Lib.hid hlen
            generalize (eachF xs).length = le at *
            clear hlen HO HAe hl hac
            go_wp2_with fail
            refine (HEb.out _ _ HV.out).mono ?_
            rintro e w11 ⟨G11, rfl, hg11, _, hb11⟩
            have HB11 := Lib.hid (HBw.out.trans (hb11.mono HBw.out.size))
            have HG11 := Lib.hid (HGw.out.below hb11)
            have HO11 := Lib.hid (HOw.out.below hb11)
            have HV11 := Lib.hid (HV.out.below hb11)
            have HK11 := Lib.hid hg11
            clear hg11 hb11 HBw HGw HOw HV HB HEb
            go_wp2_with fail
            refine (sameT_yes HK11.out HG11.out hn4).mono ?_
            rintro e w12 ⟨rfl, hb12⟩
            have HB12 := Lib.hid (HB11.out.trans (hb12.mono HB11.out.size))
            have HG12 := Lib.hid (HG11.out.below hb12)
            have HO12 := Lib.hid (HO11.out.below hb12)
            have HV12 := Lib.hid (HV11.out.below hb12)
            clear hb12 HB11 HG11 HO11 HV11 HK11
            go_wp2_with fail
            refine (HEr.out _ _ HLn.out HV12.out).mono ?_
            rintro e w13 ⟨u13, rfl, ho13, hb13⟩
            have HB13 := Lib.hid (HB12.out.trans (hb13.mono HB12.out.size))
            have HG13 := Lib.hid (HG12.out.below hb13)
            have HO13 := Lib.hid (HO12.out.below hb13)
            have HU13 := Lib.hid (ho13.lv HRok.out)
            clear ho13 hb13 HB12 HG12 HO12 HV12
            go_wp2_with fail
            refine (sameL_yes HU13.out HO13.out).mono ?_
            rintro e w14 ⟨rfl, hb14⟩
            have HB14 := Lib.hid (HB13.out.trans (hb14.mono HB13.out.size))
            have HG14 := Lib.hid (HG13.out.below hb14)
            clear hb14 HB13 HG13 HO13 HU13
            go_wp2_with fail
            refine (HTr.out _ _ HG14.out).mono ?_
            rintro e w15 ⟨rfl, hb15⟩
            have HB15 := Lib.hid (HB14.out.trans (hb15.mono HB14.out.size))
            clear hb15 HB14 HG14
            go_wp2_with fail
            go_ret
            exact ⟨rfl, HB15.out⟩
          · have jl : ¬ (acc.length : Int) < 3000 := by omega
            generalize acc.length = le at *
            go_wp2_with fail
            refine (HTr.out _ _ HGw.out).mono ?_
            rintro e w15 ⟨rfl, hb15⟩
            have HB15 := Lib.hid (HBw.out.trans (hb15.mono HBw.out.size))
            clear hb15 HBw HGw
            go_wp2_with fail
            go_ret
            exact ⟨rfl, HB15.out⟩
  · have hy : whyF xs base ≠ 0 := by rw [hwy]; exact hy0
    have HBn := Lib.hid (HNo.out hy)
    rw [hwy] at HBn
    have j0 : ¬ wy = 0 := hy0
    clear HNo hy hwy hL
    go_wp2_with fail
    refine (HBn.out _ (HR.out.below HB2.out)).mono ?_
    rintro e w3 ⟨rfl, hb3⟩
    have HB3 := Lib.hid (HB2.out.trans (hb3.mono HB2.out.size))
    clear hb3 HB2 HBn
    go_wp2_with fail
    go_ret
    exact ⟨rfl, HB3.out⟩
end Go.Proofs.Ytjfpdphedpnelaa
