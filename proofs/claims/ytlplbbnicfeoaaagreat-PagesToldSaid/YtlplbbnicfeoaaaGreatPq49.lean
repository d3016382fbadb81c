import Derived.Test.YtlplbbnicfeoaaaGreatPq33
import Derived.Test.YtlplbbnicfeoaaaGreatPq37
import Derived.Test.YtlplbbnicfeoaaaGreatPq40
import Derived.Test.YtlplbbnicfeoaaaGreatPq44
import Derived.Test.YtlplbbnicfeoaaaGreatPq45
import Derived.Test.YtlplbbnicfeoaaaGreatPq41
import Derived.Test.YtlplbbnicfeoaaaGreatPq46
import Derived.Test.YtlplbbnicfeoaaaGreatPq47
import Derived.Test.YtlplbbnicfeoaaaGreatPq48
import Derived.Deep.DeepCutAuto
import Derived.Deep.CutBlock
import Derived.Deep.CutRange
import Derived.BigRegion
import Derived.BigQuiet
import Derived.Deep.RegionHeld3
/- Pages: told. Own work. -/
namespace Go.Proofs.YtlplbbnicfeoaaaGreat
open Go.RowKit Go.Maps Go.Shelf Go.Proofs.YtlplbbnicfeoaaaGreat.Sp Wk Lv
set_option linter.unusedVariables false
attribute [local go_sem] Oper.semAt_some
attribute [local go_sem ↓ high] appLf6_eq
theorem equal_seq_nil (d : Nat) (w : World) (k : Nat) (xs : Array Value) : (Op.equalIn (d + 1) 73 (.func (.func k) #[] xs) .nilFunc).run Tryz.prog w = .ok false w := by
  have u := Tryz.underlying73
  unfold Op.equalIn
  simp only [Sem.run_bind, run_underlying u, Result.andThen_ok, Sem.run_pure]
theorem eql_seq_nil (w : World) (k : Nat) (xs : Array Value) : (binOp .eql 73 (.func (.func k) #[] xs) .nilFunc).run Tryz.prog w = .ok (.bool false) w := by
  have h := equal_seq_nil 9999 w k xs
  have e : binOp .eql 73 (.func (.func k) #[] xs) .nilFunc = (do pure (.bool (← Op.equalIn (9999 + 1) 73 (.func (.func k) #[] xs) .nilFunc)) : Sem Value) := by rfl
  rw [e, Sem.run_bind, h]
  rfl
theorem lookx_any {w : World} {m B : Nat} {V : Value × Value × Value} {T : Nat → Option Nat} {M : Nat → Nat} {rs ds : List Sp} {n t k : Nat} {l : Int} (h : Mx w m B V T M rs ds n) (ht : t + 8 * k ≤ 18446744073709551615) (hn : n ≤ 4611686018427387904) :
    Calls Tryz.prog 79 #[MemV m, .int .u64 (t : Int), .int .u64 (k : Int), .int .i64 l] w fun e w' => e = .returned (.tuple #[EntV (lookF (rs ++ ds) M (t + 8 * k) l).1, .int .i64 (lookF (rs ++ ds) M (t + 8 * k) l).2]) ∧ Mx w' m B V T M rs ds (n + 1) ∧ Keeps (fun j => j = m) w w' := by
  obtain ⟨L, S, X, h1, h2, h3, h4⟩ := h
  refine (look_any h4 ht (by omega)).mono ?_
  rintro e w' ⟨r, b, rfl, hr, hm, hk⟩
  rw [look_is hr]
  exact ⟨rfl, ⟨L, S, up b X, by omega, by omega, by cases b <;> simp [up] <;> omega, hm⟩, hk⟩
theorem mx_notRw {w : World} {m B : Nat} {V : Value × Value × Value} {T : Nat → Option Nat} {M : Nat → Nat} {rs ds : List Sp} {n : Nat} (h : Mx w m B V T M rs ds n) : ¬ Rw w m := by
  obtain ⟨L, S, X, _, _, _, G, hg, _⟩ := h
  exact not_rw hg (by
    rintro ⟨c, t, fr, k, n, h, ht, _⟩
    cases h
    rcases ht with ht | ht <;> cases ht)
/-- where told's loop over Leaves stands -/
structure ToI (m B : Nat) (V : Value × Value × Value) (T : Nat → Option Nat) (M : Nat → Nat) (rs ds : List Sp) (n0 l0 : Nat) (r : Loop) (bl rb : Nat) (W7 : World) (k : Nat) (L : List Lf) (W : World) : Prop where
  mac : Mx W m B V T M rs ds (n0 + k)
  good : (∀ x ∈ L, x.2.2.2.2.2.2 = 0) → RecAt W l0 r .ready none ∧ Rows1 bl W7.heap.size L W
  res : SlAt W rb 4 (.bool false)
  low : Keeps (fun k => (k = m ∨ k = bl ∨ k = l0 ∨ k = rb) ∨ W7.heap.size ≤ k) W7 W
set_option maxRecDepth 100000 in
set_option maxHeartbeats 8000000 in
theorem told_any {w : World} {v : Value} {xs : List L6} {base : Nat} {must : Bool} (h : Lv w v xs) (hb : base ≤ 18446744073709551615) (hm : must = true → whyF xs base = 0 ∧ sumN xs ≤ 5000 ∧ xs.length ≤ 20000) : Calls Tryz.prog 11 #[v, .int .u64 (base : Int), .bool must] w fun e w' => e = .returned (.bool true) ∧ Below w.heap.size w w' := by
  have HR := Lib.hid h
  have HMu : Hid (must = true → whyF xs base = 0 ∧ sumN xs ≤ 5000 ∧ xs.length ≤ 20000) := hm
  have HRf : Hid (∀ W, Lv W v xs → Calls Tryz.prog 8 #[v] W fun e w' => e = .returned (.int .i64 (refuF 0 xs)) ∧ Below W.heap.size W w') := fun W hW => rrefuses_any hW
  have HFw : Hid (refuF 0 xs = 0 → ∀ W, Lv W v xs → Calls Tryz.prog 9 #[v] W (FewQ xs W)) := fun hr W hW => few_sum hW (fun x hx => (alone_ok (refu_all hr x hx)).2)
  have HNo : Hid (whyF xs base ≠ 0 → ∀ W, Lv W v xs → Calls Tryz.prog 5 #[v, .int .u64 (base : Int)] W fun e w' => e = .returned (.tuple #[.slice none 0 0, .int .i64 (whyF xs base)]) ∧ Below W.heap.size W w') := fun hy W hW => build_no hW hb hy
  have HNr : Hid (whyF xs base ≠ 0 → ∀ W, Lv W v xs → Calls Tryz.prog 10 #[v, .int .u64 (base : Int)] W fun e w' => e = .returned (.tuple #[.slice none 0 0, .int .i64 (whyF xs base)]) ∧ Below W.heap.size W w') := fun hy W hW => rbuild_no hW hb hy
  obtain ⟨ao, cap, rfl, q1, q2, q3, q9⟩ := h
  clear q9 hm q3
  unfold maxLen at q2
  obtain ⟨L, hL⟩ : ∃ L, xs.length = L := ⟨_, rfl⟩
  have HN := Lib.hid hL
  rw [hL] at q1 HR HRf HFw HNo HNr ⊢
  obtain ⟨w0, hw0⟩ : ∃ w0, w.alloc (Obj.cells #[.bool false] 4) = w0 := ⟨_, rfl⟩
  have hbw : Below w.heap.size w w0 := hw0 ▸ (Below.refl _ _).alloc (Nat.le_refl _) _
  have hsl : SlAt w0 w.heap.size 4 (.bool false) := by
    show w0.heap[_]? = _
    rw [← hw0]
    exact heap_alloc_new w _
  have HFin : Hid (∀ W, Below w0.heap.size w0 W → (W.setCell ⟨w.heap.size, 0, none⟩ (.bool true)).cell? ⟨w.heap.size, 0, none⟩ = some (.bool true) ∧ Below w.heap.size w (W.setCell ⟨w.heap.size, 0, none⟩ (.bool true)) ∧ W.cell? ⟨w.heap.size, 0, none⟩ = some (.bool false) ∧ W.frozen? ⟨w.heap.size, 0, none⟩ = false) := fun W hW => by
    have s1 := hsl.below hW
    exact ⟨(s1.set (.bool true)).cell.1, (hbw.trans (hW.mono hbw.size)).setCell (Nat.le_refl _) _, s1.cell.1, s1.cell.2⟩
  have HRw := HR
  have HBw := Lib.hid hbw
  have HR := Lib.hid (HR.out.below hbw)
  have HB0 : Hid (Below w0.heap.size w0 w0) := Below.refl _ _
  have hrl : w.heap.size < w0.heap.size := hsl.lt
  have HSl := Lib.hid hsl
  clear hsl hbw
  refine (callsIn_wide (n := 20)).1 ?_
  refine callsIn_of_wp_marks Tryz.func11 rfl trivial ?_ rfl
  simp only [Tryz.ntmps11, List.size_toArray, List.length_cons, List.length_nil, Nat.reduceAdd, Nat.reduceSub, Array.replicate_succ, Array.replicate_zero, List.push_toArray, List.append_toArray, List.nil_append, List.cons_append]
  refine wpIn_wide.2 ?_
  by_cases hr : refuF 0 xs = 0
  · rw [hr] at HRf
    have HFw2 := Lib.hid (HFw.out hr)
    clear HFw
    go_wp2_with fail
    clear hw0
    refine (HRf.out _ HR.out).mono ?_
    rintro e w1 ⟨rfl, hb1⟩
    have HB1 := Lib.hid hb1
    clear hb1 HRf HB0
    go_wp2_with fail
    refine (HFw2.out _ (HR.out.below HB1.out)).mono ?_
    rintro e w2 ⟨bf, rfl, hbf, hb2⟩
    have HB2 := Lib.hid (HB1.out.trans (hb2.mono HB1.out.size))
    clear hb2 HB1 HFw2
    cases bf with
    | false =>
      have hmu : must = false := by
        cases must with
        | false => rfl
        | true =>
          obtain ⟨_, h1, h2⟩ := HMu.out rfl
          exact absurd (hbf.2 ⟨by omega, h2⟩) (by decide)
      subst hmu
      clear hbf HMu
      obtain ⟨d1, d2, d3, d4⟩ := HFin.out _ HB2.out
      go_wp2_with fail
      exact ⟨.bool true, by simp [results, Tryz.results11, go_sem, d1], rfl, d2⟩
    | true =>
      have hsum := hbf.1 rfl
      rw [hL] at hsum
      obtain ⟨hs1, hs2⟩ := hsum
      clear hbf
      have HXa : Hid (∀ x ∈ xs, aloneF x = 0) := refu_all hr
      have HHr := Lib.hid hr
      clear hr
      go_wp2_with fail
      go_loopw [7, 8] (fun nv iv wr => ∃ (i s : Nat), i ≤ L ∧ iv = .int .i64 (i : Int) ∧ nv = .int .i64 (s : Int) ∧ s ≤ 1048576 ∧ Hid (s = sumN (xs.take i)) ∧ Hid (Below w0.heap.size w0 wr)) (fun _ iv _ => L - (intOf iv).toNat)
      case atStart => exact ⟨0, 0, by omega, rfl, rfl, by omega, Lib.hid rfl, HB2⟩
      case round =>
        clear HB2
        obtain ⟨i, s, hi, rfl, rfl, hs, HS, HB⟩ := hrel
        by_cases hin : i < L
        · have ji : (i : Int) < (L : Int) := by omega
          have hix : i < xs.length := by rw [HN.out]; exact hin
          have hw1 : IntKind.i64.wrap ((i : Int) + 1) = ((i + 1 : Nat) : Int) := by rw [IntKind.wrap_i64]; omega
          obtain ⟨_, _, e', _, _, _, hc⟩ := HR.out.below HB.out
          simp only [Value.slice.injEq] at e'
          obtain ⟨rfl, e9, rfl⟩ := e'
          clear e9
          obtain ⟨b, of, rfl, c0, c1, c2, c3, c4, c5⟩ := hc i hix
          have hzi := (alone_ok (HXa.out xs[i] (List.getElem_mem _))).2
          have HT : Hid (sumN (xs.take (i + 1)) = s + xs[i].n.toNat) := by
            show _ = _
            rw [sumN_take hix, ← HS.out]
          have hle := sumN_le xs (i + 1)
          rw [HT.out] at hle
          clear hc
          generalize xs[i] = x at *
          obtain ⟨m, hm⟩ : ∃ m : Nat, x.n = (m : Int) := ⟨x.n.toNat, by omega⟩
          rw [hm] at c2 hzi HT hle
          rw [Int.toNat_natCast] at HT hle
          clear c0 c1 c3 c4 c5 hm
          have hw2 : IntKind.i64.wrap ((s : Int) + (m : Int)) = ((s + m : Nat) : Int) := by rw [IntKind.wrap_i64]; omega
          go_wp2_with fail
          go_roundw
          case rel => exact ⟨i + 1, s + m, by omega, rfl, rfl, by omega, Lib.hid HT.out.symm, HB⟩
          case measure => simp [intOf]; omega
        · have ji : ¬ (i : Int) < (L : Int) := by omega
          have HSe : Hid (s = sumN xs) := by show _ = _; rw [HS.out, List.take_of_length_le (by rw [HN.out]; omega)]
          clear HS hin
          by_cases hy : whyF xs base = 0
          · obtain ⟨n, hn⟩ : ∃ n, tabsF 1 0 0 xs = n := ⟨_, rfl⟩
            have HBy : Hid (∀ W, Lv W (.slice ao L cap) xs → Calls Tryz.prog 5 #[.slice ao L cap, .int .u64 (base : Int)] W fun e w' => ∃ G, e = .returned (.tuple #[.slice (some ⟨G, 0, none⟩) n n, .int .i64 0]) ∧ GAt w' G n (bldM xs base) ∧ W.heap.size ≤ G ∧ Below W.heap.size W w') := fun W hW => build_yes hW hb hy hn
            by_cases h5 : s ≤ 5000
            · have j5 : ¬ (5000 : Int) < (s : Int) := by omega
              clear HNo HNr HMu
              have HTb := Lib.hid (tb_of hy hn (by have := HSe.out; omega))
              have HLd : Hid (∀ W G, GAt W G n (bldM xs base) → Calls Tryz.prog 6 #[.slice (some ⟨G, 0, none⟩) n n, .int .u64 (base : Int)] W fun e w' => ∃ m, e = .returned (.pointer (some ⟨m, 0, none⟩)) ∧ Hid (NewM W w' m base n (entM base (bldM xs base) (n * 512)) (n * 512))) := fun W G hg => by
                obtain ⟨hr, _, hn4, hb4, hbl⟩ := why_zero hy
                have hn1 := tabs_pos hr
                rw [hn] at hn4 hbl hn1
                exact laid_any hg hn1 hn4 hb4 hbl (bld_word hy)
              obtain ⟨_, _, hn4, hb4, hbl⟩ := why_zero hy
              rw [hn] at hn4 hbl
              clear hy hn
              go_wp2_with fail
              refine (HBy.out _ (HR.out.below HB.out)).mono ?_
              rintro e w3 ⟨G, rfl, hg3, _, hb3⟩
              have HB3 := Lib.hid (HB.out.trans (hb3.mono HB.out.size))
              have HG3 := Lib.hid hg3
              clear hb3 HB HBy hg3
              go_wp2_with fail
              refine (HLd.out _ _ HG3.out).mono ?_
              rintro e w4 ⟨m, rfl, HM4⟩
              clear HLd HG3
              obtain ⟨B, V, T, S, hmac, hS, hmine, hbl4⟩ := HM4.out
              have hm4 : m < w4.heap.size := hmac.lt
              have hm3 : w3.heap.size ≤ m := hmine m (.inl rfl)
              have HMj : Hid (∀ j, Mine m B V T j → j < w4.heap.size ∧ w3.heap.size ≤ j) := fun j hj => ⟨hmac.mine_lt hj, hmine j hj⟩
              have HMx : Hid (Mx w4 m B V T (entM base (bldM xs base) (n * 512)) (rs1 base n) [] 1000000) := ⟨0, S, 0, by omega, by omega, by omega, hmac⟩
              have HB4 := Lib.hid (HB3.out.trans (hbl4.mono HB3.out.size))
              have h30 : w0.heap.size ≤ w3.heap.size := HB3.out.size
              have h43 : w3.heap.size ≤ w4.heap.size := hbl4.size
              clear hmac hS hmine hbl4 HM4 HB3
              generalize entM base (bldM xs base) (n * 512) = M at *
              obtain ⟨w5, hw5⟩ : ∃ w5, w4.alloc (Obj.cells #[.slice none 0 0] 22) = w5 := ⟨_, rfl⟩
              have HB5' : Hid (Below w4.heap.size w4 w5) := hw5 ▸ (Below.refl _ _).alloc (Nat.le_refl _) _
              have hs5 : w5.heap.size = w4.heap.size + 1 := by rw [← hw5]; simp
              have HSl5 : Hid (SlAt w5 w4.heap.size 22 (.slice none 0 0)) := by
                show w5.heap[_]? = _
                rw [← hw5]
                exact heap_alloc_new w4 _
              have HB5 := Lib.hid (HB4.out.trans (HB5'.out.mono HB4.out.size))
              have HM5 := Lib.hid (HMx.out.below HB5'.out)
              have HVm : Hid (∀ W, Calls Tryz.prog 25 #[.iface 31 (.pointer (some ⟨m, 0, none⟩)), .int .u64 (base : Int), .int .i64 8000] W _) := fun W => leaves_call (.iface 31 (.pointer (some ⟨m, 0, none⟩))) (.inr ⟨_, _, rfl⟩) base 8000 W
              have HS5 := Lib.hid hs5
              clear HB4 HMx HB5' hs5
              go_wp2_with fail
              clear hw5
              refine (HVm.out _).mono ?_
              rintro e w6 ⟨rfl, h6a, h6b, h6c, h6d, h6e⟩
              have HA6 := Lib.hid h6a
              have HO6 := Lib.hid h6b
              have HR6 := Lib.hid h6c
              have HB6' := Lib.hid h6e
              have HS6 := Lib.hid h6d
              have HB6 := Lib.hid (HB5.out.trans (h6e.mono HB5.out.size))
              have HM6 := Lib.hid (HM5.out.below h6e)
              have HSl6 := Lib.hid (HSl5.out.below h6e)
              clear h6a h6b h6c h6d h6e HVm HB5 HM5 HSl5
              have hnf := eql_seq_nil
              go_wp2_with fail
              clear hnf
              obtain ⟨bl, hbl'⟩ : ∃ bl, bl = w4.heap.size := ⟨_, rfl⟩
              rw [← hbl'] at hm4 HS5 HSl6 HMj h43 ⊢
              have HAr : Hid (w.heap.size < w0.heap.size ∧ w0.heap.size ≤ w3.heap.size ∧ w3.heap.size ≤ m ∧ m < bl ∧ w5.heap.size = bl + 1 ∧ w6.heap.size = w5.heap.size + 3) := ⟨hrl, h30, hm3, hm4, HS5.out, HS6.out⟩
              have HSr6 : Hid (SlAt w6 w.heap.size 4 (.bool false)) := HSl.out.below HB6.out
              clear hbl' hrl h30 hm3 hm4 HS5 HS6 h43
              refine (wpIn_wide (n := 20)).1 ?_
              refine range_out (F := Fence.wide) rfl (by decide) (gf := 48) (lb := #[.pointer (some ⟨w5.heap.size, 0, none⟩), .pointer (some ⟨w5.heap.size + 2, 0, none⟩), .pointer (some ⟨w5.heap.size + 1, 0, none⟩)]) rfl trivial (enters_of Tryz.func48 (by kernel_rfl) rfl)
                (fun V7 => Rows1 bl (w6.heap.size + 2) (((units xs).map sltU).map lfOf) V7 ∧ SlAt V7 w.heap.size 4 (.bool false) ∧ Keeps (fun k => k = m ∨ k = bl ∨ k = w.heap.size) w6 V7 ∧ V7.heap[w6.heap.size]? = some (.deferred (some []))) (fun _ _ => False) ?it ?fin ?stop
              case stop => exact fun c V h => h.elim
              case it =>
                intro W7 r _ hrt hrp hra hrb hW7
                obtain ⟨l0, hl0⟩ : ∃ l, l = w6.heap.size + 1 := ⟨_, rfl⟩
                have HRc : Hid (RecAt W7 l0 r .ready none) := by
                  have := World.alloc_heap_new (w6.alloc (.deferred (some []))) (.loop (recS r .ready none))
                  rw [World.size_alloc, ← hW7, ← hl0] at this
                  exact this
                have HDf : Hid (W7.heap[w6.heap.size]? = some (.deferred (some []))) := by
                  show _ = _
                  rw [hW7, Below.heap_alloc _ _ _ (by simp)]
                  exact World.alloc_heap_new _ _
                have HB7 : Hid (Below w6.heap.size w6 W7) := hW7 ▸ (((Below.refl _ w6).alloc (Nat.le_refl _) _).alloc (by simp) _)
                have HS7 : Hid (W7.heap.size = w6.heap.size + 2) := by show _ = _; rw [hW7]; simp
                clear hW7
                have HA7 : Hid (w6.heap.size < l0 ∧ l0 < W7.heap.size ∧ W7.heap.size = w6.heap.size + 2 ∧ l0 = w6.heap.size + 1 ∧ w.heap.size < w0.heap.size ∧ w0.heap.size ≤ w3.heap.size ∧ w3.heap.size ≤ m ∧ m < bl ∧ w5.heap.size = bl + 1 ∧ w6.heap.size = w5.heap.size + 3) := ⟨by omega, HRc.out.lt, HS7.out, hl0, HAr.out⟩
                rw [← hl0]
                clear hl0 HS7
                have HI7 : Hid (ToI m B V T M (rs1 base n) [] 1000000 l0 r bl w.heap.size W7 0 [] W7) := ⟨HM6.out.below HB7.out, fun _ => ⟨HRc.out, .slice none 0 0, HSl6.out.below HB7.out, OwnLf6.nil _ _, fun k e => (by cases e)⟩, HSr6.out.below HB7.out, Keeps.refl _ _⟩
                have HTellG : Hid (∀ n' k (L : List Lf) W (v0 ph pg : Nat) (bg wt ex : Bool), L.length ≤ 1099511627776 → W7.heap.size ≤ W.heap.size → (∀ x ∈ L, x.2.2.2.2.2.2 = 0) → ToI m B V T M (rs1 base n) [] 1000000 l0 r bl w.heap.size W7 k L W → YieldAt Fence.wide n' Tryz.prog l0 #[.agg #[.int .u64 (v0 : Int), .int .u64 (ph : Int), .int .i64 (pg : Int), .bool bg, .bool wt, .bool ex], .int .i64 0] W fun e W' => e = .returned (.bool true) ∧ ToI m B V T M (rs1 base n) [] 1000000 l0 r bl w.heap.size W7 k (L ++ [(v0, ph, pg, bg, wt, ex, 0)]) W' ∧ KeepsR (fun k => k = m ∨ k = bl ∨ k = l0 ∨ k = w.heap.size) W W') := by
                  intro n' k L W v0 ph pg bg wt ex hlen hN hok hI
                  obtain ⟨hrec, hrow⟩ := hI.good hok
                  refine yield_of (F := Fence.wide) hrec (by rw [hrp]; rfl) trivial ?_
                  rw [hra, hrt, hrp]
                  have HI := Lib.hid hI
                  clear hI
                  gi_wp2
                  refine ⟨(Below.heap_alloc W _ _ hrec.lt).trans hrec, ?_⟩
                  intro hbusy
                  obtain ⟨Vb, hVb⟩ : ∃ Vb, (W.alloc (Obj.cells #[.int .u64 (v0 : Int), .int .u64 (ph : Int), .int .i64 (pg : Int), .bool bg, .bool wt, .bool ex] 26)).putObj l0 (.loop (recS r .busy none)) = Vb := ⟨_, rfl⟩
                  have hlw0 := hrec.lt
                  have hKb : Keeps (fun k => k = l0) W Vb := hVb ▸ (Keeps.alloc (S := fun k => k = l0) W _).trans (Keeps.putObj _ l0 _) (fun _ _ e => e)
                  have HLb : Hid (BoxL Vb W.heap.size v0 ph (pg : Int) bg wt ex) := by
                    show BoxL _ _ _ _ _ _ _ _
                    rw [← hVb]
                    show (World.putObj _ _ _).heap[_]? = _
                    rw [World.putObj_heap_other (by omega)]
                    exact World.alloc_heap_new W _
                  rw [hVb] at hbusy ⊢
                  clear hVb
                  have ha7 := HA7.out
                  have hRb : Rows1 bl W7.heap.size L Vb := hrow.keeps hKb (show ¬ bl = l0 by omega) (fun k hk e => by
                    have e : k = l0 := e
                    subst e
                    exact hrec.notRw hk)
                  obtain ⟨a, n1, c, a2, n2, c2, w8, e1, e2, e3, e4, kr1, kk1, f1⟩ := tellA (v0, ph, pg, bg, wt, ex, 0) hRb hlen (Nat.le_trans hN hKb.size)
                  dsimp only at e2
                  have kk : Keeps (fun k => k = l0 ∨ k = bl ∨ W7.heap.size ≤ k) W (w8.setCell ⟨bl, 0, none⟩ (.slice a2 n2 c2)) := (hKb.mono (S' := fun k => k = l0 ∨ k = bl ∨ W7.heap.size ≤ k) (fun _ _ e => .inl e)).trans kk1 (fun _ _ e => .inr e)
                  have hbusy2 : RecAt (w8.setCell ⟨bl, 0, none⟩ (.slice a2 n2 c2)) l0 r .busy none := RecAt.keepsR hbusy kr1 (show ¬ l0 = bl by omega)
                  have HFn : Hid (RecAt (w8.setCell ⟨bl, 0, none⟩ (.slice a2 n2 c2)) l0 r .busy none ∧ ((.returned (.bool true) : Ending) = .returned (.bool true) ∧ ToI m B V T M (rs1 base n) [] 1000000 l0 r bl w.heap.size W7 k (L ++ [(v0, ph, pg, bg, wt, ex, 0)]) ((w8.setCell ⟨bl, 0, none⟩ (.slice a2 n2 c2)).putObj l0 (.loop (recS r .ready none))) ∧ KeepsR (fun k => k = m ∨ k = bl ∨ k = l0 ∨ k = w.heap.size) W ((w8.setCell ⟨bl, 0, none⟩ (.slice a2 n2 c2)).putObj l0 (.loop (recS r .ready none))))) := by
                    refine ⟨hbusy2, rfl, ⟨?_, fun _ => ⟨World.putObj_heap_same hbusy2.lt, ?_⟩, ?_, (HI.out.low.trans kk (fun k _ e => by omega)).trans (Keeps.putObj _ l0 _) (fun k _ e => by omega)⟩, ?_⟩
                    · refine (HI.out.mac.keeps kk (fun j hj e => ?_)).keeps (Keeps.putObj _ l0 _) (fun j hj e => ?_)
                      · have := HMj.out j hj
                        omega
                      · have := HMj.out j hj
                        omega
                    · exact f1.keeps (Keeps.putObj _ l0 _) (show ¬ bl = l0 by omega) (fun k hk e => by
                        have e : k = l0 := e
                        subst e
                        exact hbusy2.notRw hk)
                    · exact (HI.out.res.keeps kk (by omega)).keeps (Keeps.putObj _ l0 _) (by omega)
                    · exact ((hKb.r.mono (S' := (fun k => k = m ∨ k = bl ∨ k = l0 ∨ k = w.heap.size)) (fun _ _ e => .inr (.inr (.inl e)))).trans kr1 (fun _ _ e => .inr (.inl e))).trans (KeepsR.putObj _ l0 _) (fun _ _ e => .inr (.inr (.inl e)))
                  obtain ⟨y0, y1, y2, y3, y4, y5⟩ := HLb.out.cells
                  have HBy := Lib.hid hbusy
                  clear hKb hRb kr1 kk1 f1 kk hbusy2 HLb HI hbusy hrec hrow
                  clear HAr HMj HB6 HB6' HM6 HSl6 HSr6 HRc HDf HB7 HI7 HA6 HO6 HR6 HTb HR HFin HSl HA7 ha7 HSe HHr HXa
                  gi_wp2
                  obtain ⟨z1, _, z2⟩ := HFn.out
                  exact ⟨z1, rfl, z2⟩
                have HTellB : Hid (∀ n' k (L : List Lf) W (v0 ph pg : Nat) (bg wt ex : Bool) (wy : Int), wy ≠ 0 → W7.heap.size ≤ W.heap.size → (∀ x ∈ L, x.2.2.2.2.2.2 = 0) → ToI m B V T M (rs1 base n) [] 1000000 l0 r bl w.heap.size W7 k L W → YieldAt Fence.wide n' Tryz.prog l0 #[.agg #[.int .u64 (v0 : Int), .int .u64 (ph : Int), .int .i64 (pg : Int), .bool bg, .bool wt, .bool ex], .int .i64 wy] W fun e W' => e = .returned (.bool false) ∧ ToI m B V T M (rs1 base n) [] 1000000 l0 r bl w.heap.size W7 k (L ++ [(v0, ph, pg, bg, wt, ex, wy)]) W' ∧ KeepsR (fun k => k = m ∨ k = bl ∨ k = l0 ∨ k = w.heap.size) W W') := by
                  intro n' k L W v0 ph pg bg wt ex wy hwy hN hok hI
                  obtain ⟨hrec, hrow⟩ := hI.good hok
                  refine yield_of (F := Fence.wide) hrec (by rw [hrp]; rfl) trivial ?_
                  rw [hra, hrt, hrp]
                  have HI := Lib.hid hI
                  clear hI hrow
                  gi_wp2
                  refine ⟨(Below.heap_alloc W _ _ hrec.lt).trans hrec, ?_⟩
                  intro hbusy
                  obtain ⟨Vb, hVb⟩ : ∃ Vb, (W.alloc (Obj.cells #[.int .u64 (v0 : Int), .int .u64 (ph : Int), .int .i64 (pg : Int), .bool bg, .bool wt, .bool ex] 26)).putObj l0 (.loop (recS r .busy none)) = Vb := ⟨_, rfl⟩
                  have hKb : Keeps (fun k => k = l0) W Vb := hVb ▸ (Keeps.alloc (S := fun k => k = l0) W _).trans (Keeps.putObj _ l0 _) (fun _ _ e => e)
                  rw [hVb] at hbusy ⊢
                  clear hVb
                  have ha7 := HA7.out
                  have hres : SlAt Vb w.heap.size 4 (.bool false) := HI.out.res.keeps hKb (by omega)
                  obtain ⟨d1, d2⟩ := hres.cell
                  have ks := Keeps.setCell Vb w.heap.size 0 (.bool false)
                  have hbusy2 : RecAt (Vb.setCell ⟨w.heap.size, 0, none⟩ (.bool false)) l0 r .busy none := (ks.block l0 hbusy.lt (by omega)).trans hbusy
                  have kk : Keeps (fun k => k = l0 ∨ k = w.heap.size) W (Vb.setCell ⟨w.heap.size, 0, none⟩ (.bool false)) := (hKb.mono (S' := fun k => k = l0 ∨ k = w.heap.size) (fun _ _ e => .inl e)).trans ks (fun _ _ e => .inr e)
                  have HFn : Hid (RecAt (Vb.setCell ⟨w.heap.size, 0, none⟩ (.bool false)) l0 r .busy none ∧ ((.returned (.bool false) : Ending) = .returned (.bool false) ∧ ToI m B V T M (rs1 base n) [] 1000000 l0 r bl w.heap.size W7 k (L ++ [(v0, ph, pg, bg, wt, ex, wy)]) ((Vb.setCell ⟨w.heap.size, 0, none⟩ (.bool false)).putObj l0 (.loop (recS r .done (some .ret)))) ∧ KeepsR (fun k => k = m ∨ k = bl ∨ k = l0 ∨ k = w.heap.size) W ((Vb.setCell ⟨w.heap.size, 0, none⟩ (.bool false)).putObj l0 (.loop (recS r .done (some .ret)))))) := by
                    refine ⟨hbusy2, rfl, ⟨?_, fun hall => ?_, ?_, (HI.out.low.trans kk (fun k _ e => by omega)).trans (Keeps.putObj _ l0 _) (fun k _ e => by omega)⟩, ?_⟩
                    · refine (HI.out.mac.keeps kk (fun j hj e => ?_)).keeps (Keeps.putObj _ l0 _) (fun j hj e => ?_)
                      · have := HMj.out j hj
                        omega
                      · have := HMj.out j hj
                        omega
                    · exact absurd (hall (v0, ph, pg, bg, wt, ex, wy) (List.mem_append_right _ (List.mem_singleton.2 rfl))) hwy
                    · exact (hres.set (.bool false)).keeps (Keeps.putObj _ l0 _) (by omega)
                    · exact (kk.r.mono (S' := (fun k => k = m ∨ k = bl ∨ k = l0 ∨ k = w.heap.size)) (fun _ _ e => by rcases e with e | e; exact .inr (.inr (.inl e)); exact .inr (.inr (.inr e)))).trans (KeepsR.putObj _ l0 _) (fun _ _ e => .inr (.inr (.inl e)))
                  have jw : (wy != 0) = true := by simpa using hwy
                  have HBy := Lib.hid hbusy
                  clear hKb ks kk hbusy2 HI hbusy hrec hres hwy
                  clear HAr HMj HB6 HB6' HM6 HSl6 HSr6 HRc HDf HB7 HI7 HA6 HO6 HR6 HTb HR HFin HSl HA7 ha7 HSe HHr HXa HTellG
                  gi_wp2
                  obtain ⟨z1, _, z2⟩ := HFn.out
                  exact ⟨z1, rfl, z2⟩
                have ha7 := HA7.out
                have hbm : W7.cell? ⟨w5.heap.size, 0, none⟩ = some (.iface 31 (.pointer (some ⟨m, 0, none⟩))) := (HB7.out.cell (p := ⟨w5.heap.size, 0, none⟩) (by show w5.heap.size < _; omega)).trans HA6.out
                have hbo : W7.cell? ⟨w5.heap.size + 2, 0, none⟩ = some (.int .i64 ((8000 : Nat) : Int)) := (HB7.out.cell (p := ⟨w5.heap.size + 2, 0, none⟩) (by show w5.heap.size + 2 < _; omega)).trans HO6.out
                have hbr : W7.cell? ⟨w5.heap.size + 1, 0, none⟩ = some (.int .u64 (base : Int)) := (HB7.out.cell (p := ⟨w5.heap.size + 1, 0, none⟩) (by show w5.heap.size + 1 < _; omega)).trans HR6.out
                have E : RvEnv (lkQ (fun a l => lookF (rs1 base n ++ []) M a ((l : Nat) : Int))) ydQ ctQ (fun s => ∀ x ∈ s.2, x.2.2.2 = 0) (fun s => s.2.length) 8000 (fun s => s.1) 134480384 (fun s W => ToI m B V T M (rs1 base n) [] 1000000 l0 r bl w.heap.size W7 s.1 (s.2.map lfOf) W) (fun k => k = m ∨ k = bl ∨ k = l0 ∨ k = w.heap.size) W7.heap.size l0 31 (.pointer (some ⟨m, 0, none⟩)) := by
                  refine ⟨livesQ _, ?_, ?_, ?_, ?_, ?_, fun s a b c => Nat.le_refl _, fun s x => Nat.le_refl _⟩
                  · intro s A B' h hb
                    have hk : Keeps (fun k => W7.heap.size ≤ k ∧ ¬ Rw A k) A B' := ⟨hb.os, hb.tape, hb.output, hb.size, fun i hi hn => hb.block i hi (by
                      by_cases h1 : i < W7.heap.size
                      · exact .inl h1
                      · by_cases h2 : Rw A i
                        · exact .inr h2
                        · exact absurd ⟨by omega, h2⟩ hn)⟩
                    exact ⟨h.mac.keeps hk (fun j hj e => by have := HMj.out j hj; omega), fun ho => ⟨(hb.block l0 (h.good ho).1.lt (.inl (by omega))).trans (h.good ho).1, (h.good ho).2.belowR hb (by omega)⟩, h.res.keeps hk (by omega), h.low.trans hk (fun k _ e => .inr e.1)⟩
                  · intro k hk
                    omega
                  · intro s W fr i lev hlev hi hfr hc _ hN hI
                    refine (lookx_any (t := fr) (k := i) (l := (lev : Int)) hI.mac (by omega) (by have : s.1 < 134480384 := hc; omega)).mono ?_
                    rintro e w' ⟨rfl, hm', hk'⟩
                    refine ⟨rfl, ⟨?_, fun ho => ⟨(hk'.block l0 (hI.good ho).1.lt (show ¬ l0 = m by omega)).trans (hI.good ho).1, ?_⟩, hI.res.keeps hk' (by omega), hI.low.trans hk' (fun k _ e => .inl (.inl e))⟩, hk'.mono (fun _ _ e => .inl e)⟩
                    · show Mx w' m B V T M (rs1 base n) [] (1000000 + (s.1 + 1))
                      rw [← Nat.add_assoc]
                      exact hm'
                    · refine (hI.good ho).2.keeps hk' (show ¬ bl = m by omega) (fun k hk e => ?_)
                      have e : k = m := e
                      subst e
                      exact mx_notRw hI.mac hk
                  · intro s fr i lev
                    have := lookF_frame (rs1 base n ++ []) M (fr + 8 * i) (lev : Int)
                    show (lookF (rs1 base n ++ []) M (fr + 8 * i) (lev : Int)).1.1 + 4096 ≤ _
                    omega
                  · intro n' s W x hx1 hx2 hx3 hlive hb hN hI
                    have hok : ∀ y ∈ s.2.map lfOf, y.2.2.2.2.2.2 = 0 := fun y hy => by
                      obtain ⟨z, hz, rfl⟩ := List.mem_map.1 hy
                      exact hlive z hz
                    by_cases h0 : x.2.2.2 = 0
                    · have hc : ctQ s x = true := decide_eq_true h0
                      rw [hc, h0]
                      refine (HTellG.out n' s.1 (s.2.map lfOf) W x.1 x.2.2.1.1 (pgs x.2.1) x.2.2.1.2.2.1 x.2.2.1.2.2.2.1 x.2.2.1.2.2.2.2 (by rw [List.length_map]; have : s.2.length < 8000 := hb; omega) hN hok hI).mono ?_
                      rintro e W' ⟨rfl, h1, h2⟩
                      refine ⟨rfl, ?_, h2⟩
                      show ToI m B V T M (rs1 base n) [] 1000000 l0 r bl w.heap.size W7 s.1 ((s.2 ++ [x]).map lfOf) W'
                      rw [List.map_append]
                      have e9 : [x].map lfOf = [(x.1, x.2.2.1.1, pgs x.2.1, x.2.2.1.2.2.1, x.2.2.1.2.2.2.1, x.2.2.1.2.2.2.2, 0)] := by
                        show [(x.1, x.2.2.1.1, pgs x.2.1, x.2.2.1.2.2.1, x.2.2.1.2.2.2.1, x.2.2.1.2.2.2.2, x.2.2.2)] = _
                        rw [h0]
                      rw [e9]
                      exact h1
                    · have hc : ctQ s x = false := decide_eq_false h0
                      rw [hc]
                      refine (HTellB.out n' s.1 (s.2.map lfOf) W x.1 x.2.2.1.1 (pgs x.2.1) x.2.2.1.2.2.1 x.2.2.1.2.2.2.1 x.2.2.1.2.2.2.2 x.2.2.2 h0 hN hok hI).mono ?_
                      rintro e W' ⟨rfl, h1, h2⟩
                      refine ⟨rfl, ?_, h2⟩
                      show ToI m B V T M (rs1 base n) [] 1000000 l0 r bl w.heap.size W7 s.1 ((s.2 ++ [x]).map lfOf) W'
                      rw [List.map_append]
                      exact h1
                refine (leaves1_r E (n := 20 - 1) (root := base) (most := 8000) (s0 := (0, [])) (by decide) rfl hbm (by omega) hbo hbr hb4 (by omega) (by decide) (by decide) (by decide) rfl (by decide) (fun x hx => by cases hx) HI7.out).mono ?_
                rintro e W' ⟨he, hI', hk'⟩
                obtain ⟨_, hT⟩ := all_told HTb.out 0
                have hT : (allS (lkQ (fun a l => lookF (rs1 base n ++ []) M a ((l : Nat) : Int))) ydQ ctQ base { s := (0, []), left := 8000, go := true }).s.2 = (units xs).map sltU := hT
                rw [hT] at hI'
                obtain ⟨g1, g2⟩ := hI'.good (fun y hy => by
                  obtain ⟨z, hz, rfl⟩ := List.mem_map.1 hy
                  obtain ⟨u, _, rfl⟩ := List.mem_map.1 hz
                  rfl)
                refine ⟨he, .inl ⟨g1, ?_, ?_, ?_, ?_⟩⟩
                · rw [ha7.2.2.1] at g2
                  exact g2.keeps (Keeps.putObj _ l0 _) (show ¬ bl = l0 by omega) (fun k hk e => by
                    have e : k = l0 := e
                    subst e
                    exact g1.notRw hk)
                · exact hI'.res.keeps (Keeps.putObj _ l0 _) (by omega)
                · exact ((Keeps.of_below (S := fun k => k = m ∨ k = bl ∨ k = w.heap.size) HB7.out).trans hI'.low (fun i hi e => by omega)).trans (Keeps.putObj _ l0 _) (fun i hi e => by omega)
                · rw [World.putObj_heap_other (by omega)]
                  exact (hI'.low.block _ (by omega) (by omega)).trans HDf.out
              case fin =>
                rintro V7 ⟨⟨vl, s1, o1, _⟩, hres7, hK7, hD7⟩
                have ho7 := own_told o1
                obtain ⟨al, cl, hvl⟩ := ho7.form
                subst hvl
                obtain ⟨nl, hnl⟩ : ∃ nl, (eachF xs).length = nl := ⟨_, rfl⟩
                have har := HAr.out
                have hus := units_sum HHr.out
                have hnl5 : nl ≤ 5000 := by
                  have h6 : (eachF xs).length = (units xs).length := by unfold eachF; rw [List.length_map]
                  have := HSe.out
                  omega
                have HSm : Hid (sumN (eachF xs) = s) := by show _ = _; rw [hus.2, HSe.out]
                have hbV : Below w.heap.size w V7 := (HBw.out.trans (HB6.out.mono HBw.out.size)).trans (hK7.below (by have := HB6.out.size; have := HBw.out.size; omega) (fun i _ e => by omega))
                have hLo : Lv V7 (.slice al (eachF xs).length cl) (eachF xs) := ho7.lv (fun x hx => (alone_ok (refu_all (each_ok HHr.out).1 x hx)).1)
                have HNl := Lib.hid hnl
                rw [hnl] at hLo s1
                have hcl : nl ≤ cl ∧ cl ≤ 9223372036854775807 := by
                  obtain ⟨_, _, e', f1, f2, _⟩ := hLo
                  simp only [Value.slice.injEq] at e'
                  obtain ⟨_, _, rfl⟩ := e'
                  unfold maxLen at f2
                  omega
                have hdlt : w6.heap.size < V7.heap.size := (Array.getElem?_eq_some_iff.1 hD7).1
                have HAt : Hid (∀ W, Below V7.heap.size V7 W → SlAt W bl 22 (.slice al nl cl) ∧ SlAt W w.heap.size 4 (.bool false) ∧ W.heap[w6.heap.size]? = some (.deferred (some [])) ∧ Lv W (.slice al nl cl) (eachF xs) ∧ Lv W (.slice ao L cap) xs ∧ Below w.heap.size w W) := fun W hW => ⟨s1.below hW, hres7.below hW, (hW.block _ hdlt).trans hD7, hLo.below hW, HRw.out.below (hbV.trans (hW.mono hbV.size)), hbV.trans (hW.mono hbV.size)⟩
                have HB7 : Hid (Below V7.heap.size V7 V7) := Below.refl _ _
                have hrbw : w.heap.size < w6.heap.size := by have := HB6.out.size; omega
                clear s1 o1 hres7 hK7 hD7 ho7 hbV hLo hnl hus HTb HA6 HO6 HR6 HM6 HSl6 HSr6 HB6' HMj HAr HSl HR HRw HBw HFin HB6 hdlt har hL
                go_wp2_with fail
                go_loopw [18, 19] (fun tv iv wr => ∃ (i c : Nat), i ≤ nl ∧ iv = .int .i64 (i : Int) ∧ tv = .int .i64 (c : Int) ∧ c ≤ 5000 ∧ Hid (c = sumN ((eachF xs).take i)) ∧ Hid (Below V7.heap.size V7 wr)) (fun _ iv _ => nl - (intOf iv).toNat)
                case atStart => exact ⟨0, 0, by omega, rfl, rfl, by omega, Lib.hid rfl, HB7⟩
                case round =>
                  clear HB7
                  obtain ⟨i, c, hi, rfl, rfl, hc5, HS, HB⟩ := hrel
                  obtain ⟨t1, t2, t3, t4, t5, t6⟩ := HAt.out _ HB.out
                  obtain ⟨k1, k2⟩ := t1.cell
                  by_cases hin : i < nl
                  · have ji : (i : Int) < (nl : Int) := by omega
                    have hix : i < (eachF xs).length := by rw [HNl.out]; exact hin
                    have hw1 : IntKind.i64.wrap ((i : Int) + 1) = ((i + 1 : Nat) : Int) := by rw [IntKind.wrap_i64]; omega
                    obtain ⟨_, _, e', _, _, _, hc⟩ := t4
                    simp only [Value.slice.injEq] at e'
                    obtain ⟨rfl, e9, rfl⟩ := e'
                    clear e9
                    obtain ⟨b, of, rfl, c0, c1, c2, c3, c4, c5⟩ := hc i hix
                    have HT : Hid (sumN ((eachF xs).take (i + 1)) = c + (eachF xs)[i].n.toNat) := by
                      show _ = _
                      rw [sumN_take hix, ← HS.out]
                    have hle := sumN_le (eachF xs) (i + 1)
                    rw [HT.out, HSm.out] at hle
                    have hmem : (eachF xs)[i] ∈ eachF xs := List.getElem_mem _
                    clear hc
                    generalize (eachF xs)[i] = x at *
                    obtain ⟨u, _, hu⟩ := List.mem_map.1 hmem
                    have hrp : (x.big = true ∧ x.n = 512) ∨ (x.big = false ∧ x.n = 1) := by
                      rw [← hu]
                      exact row_pages u
                    clear hmem hu t1 t2 t3 t5 t6 c0 c1 c4 c5
                    rcases hrp with ⟨h1, h2⟩ | ⟨h1, h2⟩
                    · rw [h2] at c2 HT hle
                      rw [h1] at c3
                      have hw2 : IntKind.i64.wrap ((c : Int) + 512) = ((c + 512 : Nat) : Int) := by rw [IntKind.wrap_i64]; omega
                      have HT2 : Hid (c + 512 = sumN ((eachF xs).take (i + 1))) := Lib.hid HT.out.symm
                      have hle2 : c + 512 ≤ 5000 := by
                        have hle : c + 512 ≤ s := hle
                        omega
                      clear HT hle h1 h2
                      go_wp2_with fail
                      go_roundw
                      case rel => exact ⟨i + 1, c + 512, by omega, rfl, rfl, hle2, HT2, HB⟩
                      case measure => simp [intOf]; omega
                    · rw [h2] at c2 HT hle
                      rw [h1] at c3
                      have hw2 : IntKind.i64.wrap ((c : Int) + 1) = ((c + 1 : Nat) : Int) := by rw [IntKind.wrap_i64]; omega
                      have HT2 : Hid (c + 1 = sumN ((eachF xs).take (i + 1))) := Lib.hid HT.out.symm
                      have hle2 : c + 1 ≤ 5000 := by
                        have hle : c + 1 ≤ s := hle
                        omega
                      clear HT hle h1 h2
                      go_wp2_with fail
                      go_roundw
                      case rel => exact ⟨i + 1, c + 1, by omega, rfl, rfl, hle2, HT2, HB⟩
                      case measure => simp [intOf]; omega
                  · have ji : ¬ (i : Int) < (nl : Int) := by omega
                    have hcs : c = s := by rw [HS.out, List.take_of_length_le (by rw [HNl.out]; omega), HSm.out]
                    subst hcs
                    clear HS hin hc5 t1 t2 t3 t4 t5 t6
                    obtain ⟨R, hR⟩ : ∃ R, runsF [] xs = R := ⟨_, rfl⟩
                    have hRg := runs_ok HHr.out
                    rw [hR] at hRg
                    obtain ⟨rr, _, rl⟩ := hRg
                    have HRok : Hid (∀ x ∈ R, L6.ok x) := fun x hx => (alone_ok (refu_all rr x hx)).1
                    have hlx : (eachF xs).length ≤ 1000000 := by rw [HNl.out]; omega
                    have hlr : xs.length ≤ 1000000 := by rw [HN.out]; omega
                    have Ho1 : Hid (∀ W u, Lv W u (eachF xs) → Calls Tryz.prog 27 #[u] W fun e w' => ∃ u', e = .returned u' ∧ OwnL w' W.heap.size u' R ∧ Below W.heap.size W w') := fun W u hW => by
                      have h5 := runs_any hW hlx
                      rw [if_neg (by have := (each_ok HHr.out).1; omega), runs_each0 HHr.out, hR] at h5
                      exact h5
                    have Ho2 : Hid (∀ W u, Lv W u xs → Calls Tryz.prog 27 #[u] W fun e w' => ∃ u', e = .returned u' ∧ OwnL w' W.heap.size u' R ∧ Below W.heap.size W w') := fun W u hW => by
                      have h5 := runs_any hW hlr
                      rw [if_neg (by have := HHr.out; omega), hR] at h5
                      exact h5
                    have Ho3 : Hid (∀ W u, Lv W u (eachF xs) → Calls Tryz.prog 28 #[u] W fun e w' => ∃ u', e = .returned u' ∧ OwnL w' W.heap.size u' R ∧ Below W.heap.size W w') := fun W u hW => by
                      have h5 := rruns_any hW hlx
                      rw [if_neg (by have := (each_ok HHr.out).1; omega), runs_each0 HHr.out, hR] at h5
                      exact h5
                    have Ho4 : Hid (∀ W u, Lv W u xs → Calls Tryz.prog 28 #[u] W fun e w' => ∃ u', e = .returned u' ∧ OwnL w' W.heap.size u' R ∧ Below W.heap.size W w') := fun W u hW => by
                      have h5 := rruns_any hW hlr
                      rw [if_neg (by have := HHr.out; omega), hR] at h5
                      exact h5
                    clear rr rl hlx hlr hR
                    go_wp2_with fail
                    refine (Ho1.out _ _ (HAt.out _ HB.out).2.2.2.1).mono ?_
                    rintro e x1 ⟨u1, rfl, o1, hb1⟩
                    have HX1 := Lib.hid (HB.out.trans (hb1.mono HB.out.size))
                    obtain ⟨a1, z1, hu1⟩ := o1.form
                    subst hu1
                    have HL1 := Lib.hid (o1.lv HRok.out)
                    clear o1 hb1 HB Ho1 k1 k2
                    go_wp2_with fail
                    refine (Ho2.out _ _ (HAt.out _ HX1.out).2.2.2.2.1).mono ?_
                    rintro e x2 ⟨u2, rfl, o2, hb2⟩
                    have HX2 := Lib.hid (HX1.out.trans (hb2.mono HX1.out.size))
                    obtain ⟨a2, z2, hu2⟩ := o2.form
                    subst hu2
                    have HL2 := Lib.hid (o2.lv HRok.out)
                    have HL1b := Lib.hid (HL1.out.below hb2)
                    clear o2 hb2 HX1 Ho2 HL1
                    go_wp2_with fail
                    refine (sameL_yes HL1b.out HL2.out).mono ?_
                    rintro e x3 ⟨rfl, hb3⟩
                    have HX3 := Lib.hid (HX2.out.trans (hb3.mono HX2.out.size))
                    clear hb3 HX2 HL1b HL2
                    obtain ⟨k1, k2⟩ := (HAt.out _ HX3.out).1.cell
                    go_wp2_with fail
                    refine (Ho3.out _ _ (HAt.out _ HX3.out).2.2.2.1).mono ?_
                    rintro e x4 ⟨u4, rfl, o4, hb4⟩
                    have HX4 := Lib.hid (HX3.out.trans (hb4.mono HX3.out.size))
                    obtain ⟨a4, z4, hu4⟩ := o4.form
                    subst hu4
                    have HL4 := Lib.hid (o4.lv HRok.out)
                    clear o4 hb4 HX3 Ho3 k1 k2
                    go_wp2_with fail
                    refine (Ho4.out _ _ (HAt.out _ HX4.out).2.2.2.2.1).mono ?_
                    rintro e x5 ⟨u5, rfl, o5, hb5⟩
                    have HX5 := Lib.hid (HX4.out.trans (hb5.mono HX4.out.size))
                    obtain ⟨a5, z5, hu5⟩ := o5.form
                    subst hu5
                    have HL5 := Lib.hid (o5.lv HRok.out)
                    have HL4b := Lib.hid (HL4.out.below hb5)
                    clear o5 hb5 HX4 Ho4 HL4
                    go_wp2_with fail
                    refine (sameL_yes HL4b.out HL5.out).mono ?_
                    rintro e x6 ⟨rfl, hb6⟩
                    have HX6 := Lib.hid (HX5.out.trans (hb6.mono HX5.out.size))
                    clear hb6 HX5 HL4b HL5
                    obtain ⟨_, t2, t3, _, _, t6⟩ := HAt.out _ HX6.out
                    obtain ⟨k1, k2⟩ := t2.cell
                    have hks := Keeps.setCell x6 w.heap.size 0 (.bool true)
                    have hD : (x6.setCell ⟨w.heap.size, 0, none⟩ (.bool true)).heap[w6.heap.size]? = some (.deferred (some [])) := (hks.block _ (Array.getElem?_eq_some_iff.1 t3).1 (by omega)).trans t3
                    have hbz : Below w.heap.size w (x6.setCell ⟨w.heap.size, 0, none⟩ (.bool true)) := t6.setCell (Nat.le_refl _) _
                    have hsz : SlAt (x6.setCell ⟨w.heap.size, 0, none⟩ (.bool true)) w.heap.size 4 (.bool true) := t2.set _
                    have hkp := Keeps.putObj (x6.setCell ⟨w.heap.size, 0, none⟩ (.bool true)) w6.heap.size (.deferred none)
                    have HD9 := Lib.hid hD
                    have HS9 : Hid (((x6.setCell ⟨w.heap.size, 0, none⟩ (.bool true)).putObj w6.heap.size (.deferred none)).cell? ⟨w.heap.size, 0, none⟩ = some (.bool true)) := (hsz.keeps hkp (by omega)).cell.1
                    have HB9 : Hid (Below w.heap.size w ((x6.setCell ⟨w.heap.size, 0, none⟩ (.bool true)).putObj w6.heap.size (.deferred none))) := hbz.trans (hkp.below hbz.size (fun i _ e => by omega))
                    clear t2 t3 t6 hks hD hbz hsz hkp
                    go_wp2_with fail
                    have hs9 := HS9.out
                    refine ⟨by simp, .inl ⟨_, _, rfl, run_takeDeferred HD9.out, ?_⟩⟩
                    exact ⟨.bool true, by simp [results, Tryz.results11, go_sem, hs9], rfl, HB9.out⟩
            · have j5 : (5000 : Int) < (s : Int) := by omega
              have hmu : must = false := by
                cases must with
                | false => rfl
                | true => exact absurd (HMu.out rfl).2.1 (by have := HSe.out; omega)
              subst hmu
              have HBr : Hid (∀ W, Lv W (.slice ao L cap) xs → Calls Tryz.prog 10 #[.slice ao L cap, .int .u64 (base : Int)] W fun e w' => ∃ u, e = .returned (.tuple #[u, .int .i64 0]) ∧ Below W.heap.size W w') := fun W hW => rbuild_yes hW hb hy
              clear HNo HNr HMu hy hn HSe
              go_wp2_with fail
              refine (HBy.out _ (HR.out.below HB.out)).mono ?_
              rintro e w3 ⟨G, rfl, hg3, _, hb3⟩
              have HB3 := Lib.hid (HB.out.trans (hb3.mono HB.out.size))
              clear hb3 HB HBy hg3
              go_wp2_with fail
              refine (HBr.out _ (HR.out.below HB3.out)).mono ?_
              rintro e w4 ⟨u4, rfl, hb4⟩
              have HB4 := Lib.hid (HB3.out.trans (hb4.mono HB3.out.size))
              clear hb4 HB3 HBr
              obtain ⟨d1, d2, d3, d4⟩ := HFin.out _ HB4.out
              go_wp2_with fail
              exact ⟨.bool true, by simp [results, Tryz.results11, go_sem, d1], rfl, d2⟩
          · have hmu : must = false := by
              cases must with
              | false => rfl
              | true => exact absurd (HMu.out rfl).1 hy
            subst hmu
            obtain ⟨wy, hwy⟩ : ∃ y, whyF xs base = y := ⟨_, rfl⟩
            have HNo2 := Lib.hid (HNo.out hy)
            have HNr2 := Lib.hid (HNr.out hy)
            rw [hwy] at HNo2 HNr2 hy
            have jy : (wy != 0) = true := by simpa using hy
            clear HNo HNr HMu hwy HSe
            go_wp2_with fail
            refine (HNo2.out _ (HR.out.below HB.out)).mono ?_
            rintro e w3 ⟨rfl, hb3⟩
            have HB3 := Lib.hid (HB.out.trans (hb3.mono HB.out.size))
            clear hb3 HB HNo2
            go_wp2_with fail
            refine (HNr2.out _ (HR.out.below HB3.out)).mono ?_
            rintro e w4 ⟨rfl, hb4⟩
            have HB4 := Lib.hid (HB3.out.trans (hb4.mono HB3.out.size))
            clear hb4 HB3 HNr2
            obtain ⟨d1, d2, d3, d4⟩ := HFin.out _ HB4.out
            go_wp2_with fail
            exact ⟨.bool true, by simp [results, Tryz.results11, go_sem, d1], rfl, d2⟩
  · have hmu : must = false := by
      cases must with
      | false => rfl
      | true => exact absurd (why_zero (HMu.out rfl).1).1 hr
    subst hmu
    obtain ⟨rf, hrf⟩ : ∃ y, refuF 0 xs = y := ⟨_, rfl⟩
    rw [hrf] at HRf hr
    have jr : (rf != 0) = true := by simpa using hr
    clear HFw HMu
    go_wp2_with fail
    clear hw0
    refine (HRf.out _ HR.out).mono ?_
    rintro e w1 ⟨rfl, hb1⟩
    obtain ⟨d1, d2, d3, d4⟩ := HFin.out _ hb1
    clear hb1 HRf HB0
    go_wp2_with fail
    exact ⟨.bool true, by simp [results, Tryz.results11, go_sem, d1], rfl, d2⟩
end Go.Proofs.YtlplbbnicfeoaaaGreat
