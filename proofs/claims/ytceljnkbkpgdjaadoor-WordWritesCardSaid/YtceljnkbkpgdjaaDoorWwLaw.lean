/- WordWrites: the law. Own work. -/
import Derived.Test.YtceljnkbkpgdjaaDoorWwStp2
namespace Go.Proofs.YtceljnkbkpgdjaaDoor
open Go.RowKit Go.Shelf
set_option linter.unusedVariables false
/-- a step, whatever it is -/
theorem step_any {w0 w : World} {X : Nat} {c : Nat → Nat} {L : List Wi} {o : OpV} {N : Nat} (h : Ws w0 X c L w) (hL0 : 0 < L.length) (hL : L.length ≤ 1048000) (hg : Good N L) (hN : N ≤ 549755812888) (ho : o.Ok w w0.heap.size) (ht : Tab w0) :
    Calls Tryd.prog 6 #[.pointer (some ⟨X, 0, none⟩), .agg o.vals] w fun e w' => e = .returned (.bool true) ∧ ∃ c' L', Ws w0 X c' L' w' ∧ 0 < L'.length ∧ L'.length ≤ L.length + 1 ∧ Good (N + 4096 + o.ps.length + o.s.size) L' := by
  obtain ⟨kind, pos, n, num, pv, ps, s⟩ := o
  obtain ⟨pa, pc, hpv⟩ : ∃ a c, pv = .slice a ps.length c := by
    obtain ⟨a, c, e, _⟩ := ho.1
    exact ⟨a, c, e⟩
  subst hpv
  have hw : ∀ M, N ≤ M → ∀ x ∈ L, x.zs.length ≤ M ∧ 0 ≤ x.why ∧ x.why ≤ 12 := fun M hM x hx => by
    have := hg x hx
    exact ⟨by omega, this.2⟩
  by_cases h10 : kind = 10
  · subst h10
    refine (step_new h hL).mono ?_
    rintro e w' ⟨rfl, c', p, r, hs⟩
    refine ⟨rfl, c', _, hs, by simp, by simp, fun x hx => ?_⟩
    rcases List.mem_append.1 hx with hx | hx
    · exact hw _ (by omega) x hx
    · rw [List.mem_singleton] at hx
      subst hx
      exact ⟨Nat.zero_le _, Int.le_refl 0, show (0 : Int) ≤ 12 by decide⟩
  · by_cases h9 : kind = 9
    · refine (step_tell h hL0 (by omega) (hw _ hN) h9).mono ?_
      rintro e w' ⟨rfl, c', hs⟩
      exact ⟨rfl, c', L, hs, hL0, by omega, hw _ (by omega)⟩
    · refine (step_lay h hL0 (by omega) hg hN ho ht h9 h10).mono ?_
      rintro e w' ⟨rfl, c', L', hs, hl, hg'⟩
      exact ⟨rfl, c', L', hs, by omega, by omega, hg'⟩
theorem total_len : ∀ os : List OpV, 4097 * os.length ≤ total os
  | [] => Nat.le_refl _
  | o :: os => by
    have := total_len os
    simp only [List.length_cons, total, cost]
    omega
theorem total_take_le : ∀ (os : List OpV) (k : Nat), total (os.take k) ≤ total os
  | [], k => by simp [total]
  | o :: os, 0 => by simp [total]
  | o :: os, k + 1 => by
    have := total_take_le os k
    simp only [List.take_succ_cons, total]
    omega
theorem cost_le {os : List OpV} {k : Nat} (h : k < os.length) : cost os[k] ≤ total os := by
  have h1 := total_take_succ h
  have h2 := total_take_le os (k + 1)
  omega
/-- a step that hands nothing in -/
theorem ok_bare (w : World) (base : Nat) (kind pos num : Int) (n : Nat) (hn : n < 18446744073709551616) (s : ByteArray) (hs : s.size ≤ 2147483647) : OpV.Ok w base ⟨kind, pos, n, num, .slice none 0 0, [], s⟩ :=
  ⟨⟨none, 0, rfl, Nat.le_refl _, Nat.zero_le _, by simp, by simp, fun i hi => absurd hi (by simp)⟩, hn, Nat.zero_le _, hs, fun h => absurd rfl h⟩
theorem Sl.lt_of {w : World} {v : Value} {zs : List Nat} (h : Sl w v zs) (hz : zs ≠ []) : ∀ k, v.ownBlock = some k → k < w.heap.size := by
  obtain ⟨ao, cap, rfl, h1, h2, h3, h4, h5⟩ := h
  obtain ⟨b, o, rfl, hc⟩ := h5 0 (List.length_pos_iff.2 hz)
  intro k hk
  cases hk
  exact World.block_lt_of_cell? w _ hc
set_option maxRecDepth 100000 in
set_option maxHeartbeats 4000000 in
theorem wwrites_any {w : World} {v : Value} {os : List OpV} (hv : Scr w v os) (ht : Tab w) :
    Calls Tryd.prog 3 #[v] w fun e w' => e = .returned (.bool true) ∧ Below w.heap.size w w' := by
  have HV := Lib.hid hv
  have HT := Lib.hid ht
  have HBy := Lib.hid (beyond_any hv)
  obtain ⟨ao, cap, rfl, hcap, hmax, hcells⟩ := hv
  unfold maxLen at hmax
  clear hcells ht
  obtain ⟨n, hn⟩ : ∃ n, os.length = n := ⟨_, rfl⟩
  have HN := Lib.hid hn
  rw [hn] at hcap HBy HV ⊢
  clear hn
  go_enter Tryd.func3, Tryd.ntmps3
  go_wp2_with fail
  refine HBy.out.mono ?_
  rintro e w1 ⟨r, rfl, hr, hb1⟩
  have HB1 := Lib.hid hb1
  cases r with
  | true =>
    clear hb1 hr
    go_wp2_with fail
    go_ret
    exact ⟨rfl, HB1.out⟩
  | false =>
    have HTo : Hid (total os ≤ 2147483647) := hr rfl
    have HTw : Hid (Tab w1) := HT.out.below hb1
    have hs0 := Ws.start w1
    have HS0 := Lib.hid hs0
    have HNw := Lib.hid (show Calls Tryd.prog 6 #[.pointer (some ⟨w1.heap.size, 0, none⟩), .agg #[.int .i64 10, .int .i64 0, .int .u64 0, .int .i64 0, .slice none 0 0, .string ⟨#[]⟩]] _ _ from step_new (pos := 0) (num := 0) (n := 0) (pa := none) (pl := 0) (pc := 0) (s := ⟨#[]⟩) hs0 (by simp))
    have HSa : Hid (∀ (W : World) (k : Int) (m : Nat) c L N, m < 18446744073709551616 → Ws w1 w1.heap.size c L W → 0 < L.length → L.length ≤ 1048000 → Good N L → N ≤ 549755812888 → Calls Tryd.prog 6 #[.pointer (some ⟨w1.heap.size, 0, none⟩), .agg #[.int .i64 k, .int .i64 0, .int .u64 (m : Int), .int .i64 0, .slice none 0 0, .string ⟨#[]⟩]] W fun e w' => e = .returned (.bool true) ∧ ∃ c' L', Ws w1 w1.heap.size c' L' w' ∧ 0 < L'.length ∧ L'.length ≤ L.length + 1 ∧ Good (N + 4096 + 0 + 0) L') := fun W k m c L N hm h1 h2 h3 h4 h5 => step_any (o := ⟨k, 0, m, 0, .slice none 0 0, [], ⟨#[]⟩⟩) h1 h2 h3 h4 h5 (ok_bare W _ k 0 0 m hm _ (Nat.zero_le _)) HTw.out
    clear hb1 hr hs0
    go_wp2_with fail
    refine HNw.out.mono ?_
    rintro e w2 ⟨rfl, c2, p2, r2, hs2⟩
    have HC2 := Lib.hid (show Calls Tryd.prog 6 #[.pointer (some ⟨w1.heap.size, 0, none⟩), .agg #[.int .i64 2, .int .i64 0, .int .u64 515, .int .i64 0, .slice none 0 0, .string ⟨#[]⟩]] w2 _ from HSa.out w2 2 515 c2 _ 0 (by decide) hs2 (by simp) (by simp) (fun x hx => by
      simp only [List.nil_append, List.mem_singleton] at hx
      subst hx
      exact ⟨Nat.le_refl _, Int.le_refl 0, show (0 : Int) ≤ 12 by decide⟩) (by decide))
    clear hs2 HNw
    go_wp2_with fail
    refine HC2.out.mono ?_
    rintro e w3 ⟨rfl, c3, L3, hs3, hl3, hm3, hg3⟩
    simp only [List.nil_append, List.length_singleton] at hm3
    have HC3 := Lib.hid (show Calls Tryd.prog 6 #[.pointer (some ⟨w1.heap.size, 0, none⟩), .agg #[.int .i64 8, .int .i64 0, .int .u64 0, .int .i64 0, .slice none 0 0, .string ⟨#[]⟩]] w3 _ from HSa.out w3 8 0 c3 L3 4096 (by decide) hs3 hl3 (by omega) hg3 (by decide))
    clear hs3 hg3 HC2
    go_wp2_with fail
    refine HC3.out.mono ?_
    rintro e w4 ⟨rfl, c4, L4, hs4, hl4, hm4, hg4⟩
    have HC4 := Lib.hid (show Calls Tryd.prog 7 #[.pointer (some ⟨w1.heap.size, 0, none⟩), .int .i64 0] w4 _ from tells_any (i := 0) hs4 hl4 (fun x hx => ⟨Nat.le_trans (hg4 x hx).1 (by decide), (hg4 x hx).2⟩) (by omega))
    have HG4 : Hid (Good 8192 L4) := hg4
    have HL4 : Hid (0 < L4.length ∧ L4.length ≤ 3) := ⟨hl4, by omega⟩
    clear hs4 hg4 HC3 hm3 hm4 hl3 hl4
    go_wp2_with fail
    refine HC4.out.mono ?_
    rintro e w5 ⟨rfl, c5, hs5⟩
    have HS5 := Lib.hid hs5
    have hnn : n ≤ 524288 := by have h1 := total_len os; have h2 := HTo.out; have h3 := HN.out; omega
    clear hs5 HC4
    go_wp2_with fail
    go_loopw [5] (fun iv wr => ∃ i : Nat, i ≤ n ∧ iv = .int .i64 (i : Int) ∧ Hid (∃ c' L', Ws w1 w1.heap.size c' L' wr ∧ 0 < L'.length ∧ L'.length ≤ i + 3 ∧ Good (8192 + total (os.take i)) L')) (fun iv _ => n - (intOf iv).toNat)
    case atStart => exact ⟨0, by omega, rfl, ⟨c5, L4, HS5.out, HL4.out.1, by have := HL4.out; omega, HG4.out⟩⟩
    case round =>
      clear HS5 HG4 HL4
      obtain ⟨i, hi, rfl, HS⟩ := hrel
      by_cases hin : i < n
      · obtain ⟨c6, L6, hs6, hl6, hm6, hg6⟩ := HS.out
        have hix : i < os.length := by rw [HN.out]; exact hin
        obtain ⟨b, of, op, hao, hop, hsl, hnn2, e0, e1, e2, e3, e4, e5⟩ := HV.out.at (HB1.out.trans (hs6.below.mono HB1.out.size)) i hix
        have hsl0 : Sl w op.pv op.ps := by
          obtain ⟨_, _, op', _, hop', hsl', _⟩ := HV.out.at (Below.refl _ _) i hix
          rw [hop, ← hop']
          exact hsl'
        have hct := cost_le hix
        have hts := total_take_succ hix
        have htl := total_take_le os (i + 1)
        rw [← hop] at hct hts
        have HTo2 := HTo.out
        unfold cost at hct hts
        have hok : op.Ok wr w1.heap.size := ⟨hsl, hnn2, by omega, by omega, fun hne k hk => Nat.lt_of_lt_of_le (hsl0.lt_of hne k hk) HB1.out.size⟩
        have HSt := Lib.hid (step_any hs6 hl6 (by omega) hg6 (by omega) hok HTw.out)
        obtain ⟨pa, pc, hpv⟩ : ∃ a c, op.pv = .slice a op.ps.length c := by
          obtain ⟨a, c, e, _⟩ := hsl
          exact ⟨a, c, e⟩
        unfold OpV.vals at HSt
        rw [hpv] at HSt e4
        have HNx : Hid (∀ L', Good (8192 + total (os.take i) + 4096 + op.ps.length + op.s.size) L' → Good (8192 + total (os.take (i + 1))) L') := fun L' hg x hx => ⟨Nat.le_trans (hg x hx).1 (by omega), (hg x hx).2⟩
        have HLx : Hid (L6.length ≤ i + 3) := hm6
        have ji : (i : Int) < (n : Int) := by omega
        have jw : IntKind.i64.wrap ((i : Int) + 1) = ((i + 1 : Nat) : Int) := by rw [IntKind.wrap_i64]; omega
        subst hao
        clear hs6 hg6 hok hsl hsl0 hct hts htl HTo2 hop hpv hm6
        generalize op.kind = kk at *
        generalize op.pos = kp at *
        generalize op.n = kn at *
        generalize op.num = km at *
        generalize op.s = ks at *
        go_wp2_with fail
        refine HSt.out.mono ?_
        rintro e w7 ⟨rfl, c7, L7, hs7, hl7, hm7, hg7⟩
        have HS7 : Hid (∃ c' L', Ws w1 w1.heap.size c' L' w7 ∧ 0 < L'.length ∧ L'.length ≤ (i + 1) + 3 ∧ Good (8192 + total (os.take (i + 1))) L') := ⟨c7, L7, hs7, hl7, by have := HLx.out; omega, HNx.out L7 hg7⟩
        clear hs7 hl7 hm7 hg7 HSt HNx
        go_wp2_with fail
        go_roundw
        case rel => exact ⟨i + 1, by omega, rfl, HS7⟩
        case measure => simp [intOf]; omega
      · obtain rfl : i = n := by omega
        have HE : Hid (∃ c' L', Ws w1 w1.heap.size c' L' wr ∧ 0 < L'.length ∧ L'.length ≤ 1048576 ∧ Good 549755812888 L') := by
          obtain ⟨c6, L6, hs6, hl6, hm6, hg6⟩ := HS.out
          refine ⟨c6, L6, hs6, hl6, by omega, fun x hx => ⟨?_, (hg6 x hx).2⟩⟩
          have h1 := (hg6 x hx).1
          have h2 := total_take_le os i
          have h3 := HTo.out
          omega
        clear HS
        obtain ⟨c6, L6, hs6, hl6, hm6, hg6⟩ := HE.out
        have HGd : Hid (Good 549755812888 L6) := hg6
        have HS6 := Lib.hid hs6
        clear HE hs6 hg6
        obtain ⟨m, hm⟩ : ∃ m, L6.length = m := ⟨_, rfl⟩
        have HmL := Lib.hid hm
        rw [hm] at hl6 hm6
        clear hm
        go_wp2_with fail
        go_loopw [6] (fun jv wq => ∃ j : Nat, j ≤ m ∧ jv = .int .i64 (j : Int) ∧ Hid (∃ c', Ws w1 w1.heap.size c' L6 wq)) (fun jv _ => m - (intOf jv).toNat)
        case atStart => exact ⟨0, by omega, rfl, ⟨c6, HS6.out⟩⟩
        case round =>
          clear HS6
          obtain ⟨j, hj, rfl, HSj⟩ := hrel
          obtain ⟨c8, hs8⟩ := HSj.out
          obtain ⟨A, B, hwm⟩ := hs8.wm
          obtain ⟨aa, ac, rfl⟩ := hwm.ra.form
          obtain ⟨x0, _, xl, _⟩ := hwm.cells
          rw [List.length_map, HmL.out] at x0
          by_cases hjm : j < m ∧ j < 50
          · obtain ⟨hj1, hj2⟩ := hjm
            have j1 : (j : Int) < (m : Int) := by omega
            have j2 : (j : Int) < 50 := by omega
            have jw : IntKind.i64.wrap ((j : Int) + 1) = ((j + 1 : Nat) : Int) := by rw [IntKind.wrap_i64]; omega
            have HTl := Lib.hid (tells_any hs8 (show j < L6.length by rw [HmL.out]; exact hj1) HGd.out (by rw [HmL.out]; exact hm6))
            clear hs8 hwm
            go_wp2_with fail
            refine HTl.out.mono ?_
            rintro e w9 ⟨rfl, h9⟩
            have HS9 := Lib.hid h9
            clear h9 HTl
            go_wp2_with fail
            go_roundw
            case rel => exact ⟨j + 1, by omega, rfl, HS9⟩
            case measure => simp [intOf]; omega
          · have HAp := Lib.hid (hs8.apart)
            clear hs8 hwm
            by_cases hj1 : j < m
            · have j1 : (j : Int) < (m : Int) := by omega
              have j2 : ¬ (j : Int) < 50 := by omega
              go_wp2_with fail
              refine HAp.out.mono ?_
              rintro e w9 ⟨rfl, h9⟩
              have HB9 : Hid (Below w.heap.size w w9) := HB1.out.trans (h9.mono HB1.out.size)
              clear h9
              go_wp2_with fail
              go_ret
              exact ⟨rfl, HB9.out⟩
            · have j1 : ¬ (j : Int) < (m : Int) := by omega
              go_wp2_with fail
              refine HAp.out.mono ?_
              rintro e w9 ⟨rfl, h9⟩
              have HB9 : Hid (Below w.heap.size w w9) := HB1.out.trans (h9.mono HB1.out.size)
              clear h9
              go_wp2_with fail
              go_ret
              exact ⟨rfl, HB9.out⟩
end Go.Proofs.YtceljnkbkpgdjaaDoor
