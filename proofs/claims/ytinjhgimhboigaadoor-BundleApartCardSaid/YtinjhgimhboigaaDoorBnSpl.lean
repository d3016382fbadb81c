/- Bundle: the document's samePlans, exactly (written by parts/gen_bnspl.py). Own work. -/
import Derived.Test.YtinjhgimhboigaaDoorBnBus
namespace Go.Proofs.YtinjhgimhboigaaDoor
open Go.RowKit Bn
set_option linter.unusedVariables false
set_option linter.unusedSimpArgs false
theorem list_at {α : Type} {l m : List α} (h : l = m) {i : Nat} (h1 : i < l.length) (h2 : i < m.length) : l[i] = m[i] := by subst h; rfl
theorem sc_eq {X Y : Sc} (h1 : X.maj = Y.maj) (h2 : X.lanes = Y.lanes) : X = Y := by
  cases X; cases Y; simp at h1 h2; simp [h1, h2]
set_option maxRecDepth 100000 in
set_option maxHeartbeats 8000000 in
theorem samePlansX {w : World} {u v : Value} {xs ys : List Sc} (hu : PlG w u xs) (hv : PlG w v ys) : Calls Tryd.prog 15 #[u, v] w (YN (xs = ys) w) := by
  have HU := Lib.hid hu
  have HV := Lib.hid hv
  obtain ⟨ao, cap, rfl, h1, h2, _⟩ := hu
  obtain ⟨bo, bap, rfl, g1, g2, _⟩ := hv
  unfold maxLen at h2 g2
  obtain ⟨n, hn⟩ : ∃ n, xs.length = n := ⟨_, rfl⟩
  obtain ⟨m, hm⟩ : ∃ m, ys.length = m := ⟨_, rfl⟩
  have HN := Lib.hid hn
  have HM := Lib.hid hm
  rw [hn] at h1 HU ⊢
  rw [hm] at g1 HV ⊢
  clear hn hm
  have HB0 : Hid (Below w.heap.size w w) := Below.refl _ _
  by_cases hnm : n = m
  · subst hnm
    go_enter Tryd.func15, Tryd.ntmps15
    go_wp2_with fail
    go_loopw [5] (fun iv wr => ∃ i : Nat, i ≤ n ∧ iv = .int .i64 (i : Int) ∧ Hid (∀ j (h1 : j < xs.length) (h2 : j < ys.length), j < i → xs[j] = ys[j]) ∧ Hid (Below w.heap.size w wr)) (fun iv _ => n - (intOf iv).toNat)
    case atStart => exact ⟨0, by omega, rfl, (fun j _ _ h => absurd h (Nat.not_lt_zero _)), HB0⟩
    clear HB0
    obtain ⟨i, hi, rfl, HEq, HB⟩ := hrel
    by_cases hin : i < n
    · have ji : (i : Int) < (n : Int) := by omega
      have hix : i < xs.length := by rw [HN.out]; exact hin
      have hiy : i < ys.length := by rw [HM.out]; exact hin
      have hw1 : IntKind.i64.wrap ((i : Int) + 1) = ((i + 1 : Nat) : Int) := by rw [IntKind.wrap_i64]; omega
      obtain ⟨_, _, e', _, _, hc⟩ := HU.out.below HB.out
      simp only [Value.slice.injEq] at e'
      obtain ⟨rfl, e9, rfl⟩ := e'
      clear e9
      obtain ⟨b, of, u, rfl, cm, cl, hL⟩ := hc i hix
      obtain ⟨_, _, e', _, _, hd⟩ := HV.out.below HB.out
      simp only [Value.slice.injEq] at e'
      obtain ⟨rfl, e9, rfl⟩ := e'
      clear e9
      obtain ⟨b', of', u', rfl, dm, dl, hM⟩ := hd i hiy
      have HNx : Hid (xs[i] = ys[i] → ∀ t (h1 : t < xs.length) (h2 : t < ys.length), t < i + 1 → xs[t] = ys[t]) := fun e t h1 h2 h3 => by
        by_cases h : t = i
        · subst h; exact e
        · exact HEq.out t h1 h2 (by omega)
      have HNo : Hid (xs[i] ≠ ys[i] → ¬ xs = ys) := fun e h => e (list_at h _ _)
      generalize xs[i] = X at *
      generalize ys[i] = Y at *
      have HL := Lib.hid hL
      have HL2 := Lib.hid hM
      obtain ⟨la, lc, rfl, k1, k2, _⟩ := hL
      obtain ⟨ma, mc, rfl, k3, k4, _⟩ := hM
      unfold maxLen at k2 k4
      obtain ⟨p, hp⟩ : ∃ p, X.lanes.length = p := ⟨_, rfl⟩
      obtain ⟨r, hr⟩ : ∃ r, Y.lanes.length = r := ⟨_, rfl⟩
      have HP := Lib.hid hp
      have HR := Lib.hid hr
      rw [hp] at k1 cl HL
      rw [hr] at k3 dl HL2
      obtain ⟨xm, hxm⟩ : ∃ x, X.maj = x := ⟨_, rfl⟩
      obtain ⟨ym, hym⟩ : ∃ x, Y.maj = x := ⟨_, rfl⟩
      have HXm := Lib.hid hxm
      have HYm := Lib.hid hym
      rw [hxm] at cm
      rw [hym] at dm
      clear hp hr hxm hym
      generalize wr = w1 at *
      have HBa := HB
      by_cases em : xm = ym
      · by_cases el : p = r
        · subst em el
          have HCl := Lib.hid cl
          have HDl := Lib.hid dl
          go_upto_region 6 with fail
          go_quiet (fail)
          have HB0 : Hid (Below w1.heap.size w1 (w1.drewN nq)) := ⟨rfl, rfl, rfl, Nat.le_refl _, fun _ _ => rfl⟩
          clear cm dm cl dl
          generalize (w1.drewN nq) = w5 at *
          go_wp2_with fail
          go_loopw [6] (fun iv wr => ∃ j : Nat, j ≤ p ∧ iv = .int .i64 (j : Int) ∧ Hid (∀ t (h1 : t < X.lanes.length) (h2 : t < Y.lanes.length), t < j → X.lanes[t] = Y.lanes[t]) ∧ Hid (Below w1.heap.size w1 wr)) (fun iv _ => p - (intOf iv).toNat)
          case atStart => exact ⟨0, by omega, rfl, (fun j _ _ h => absurd h (Nat.not_lt_zero _)), HB0⟩
          clear HB0
          obtain ⟨j, hj, rfl, HEq2, HB2⟩ := hrel
          have c1 := cell_low HB2.out HCl.out
          have c2 := cell_low HB2.out HDl.out
          by_cases hjp : j < p
          · have jj : (j : Int) < (p : Int) := by omega
            have hjx : j < X.lanes.length := by rw [HP.out]; exact hjp
            have hjy : j < Y.lanes.length := by rw [HR.out]; exact hjp
            have hw2 : IntKind.i64.wrap ((j : Int) + 1) = ((j + 1 : Nat) : Int) := by rw [IntKind.wrap_i64]; omega
            obtain ⟨_, _, e', _, _, hc⟩ := HL.out.below HB2.out
            simp only [Value.slice.injEq] at e'
            obtain ⟨rfl, e9, rfl⟩ := e'
            clear e9
            obtain ⟨lb, lo, u, rfl, e1, hA⟩ := hc j hjx
            obtain ⟨_, _, e', _, _, hd⟩ := HL2.out.below HB2.out
            simp only [Value.slice.injEq] at e'
            obtain ⟨rfl, e9, rfl⟩ := e'
            clear e9
            obtain ⟨lb', lo', u', rfl, e2, hB⟩ := hd j hjy
            have HNx2 : Hid (X.lanes[j] = Y.lanes[j] → ∀ t (h1 : t < X.lanes.length) (h2 : t < Y.lanes.length), t < j + 1 → X.lanes[t] = Y.lanes[t]) := fun e t h1 h2 h3 => by
              by_cases h : t = j
              · subst h; exact e
              · exact HEq2.out t h1 h2 (by omega)
            have HNo2 : Hid (X.lanes[j] ≠ Y.lanes[j] → ¬ X.lanes = Y.lanes) := fun e h => e (list_at h _ _)
            generalize X.lanes[j] = La at *
            generalize Y.lanes[j] = Lb at *
            have HA := Lib.hid hA
            have HAb := Lib.hid hB
            obtain ⟨ra, rc, rfl, y1, y2, _⟩ := hA
            obtain ⟨sa, sc, rfl, y3, y4, _⟩ := hB
            unfold maxLen at y2 y4
            obtain ⟨q, hq⟩ : ∃ p, La.length = p := ⟨_, rfl⟩
            obtain ⟨s, hs⟩ : ∃ r, Lb.length = r := ⟨_, rfl⟩
            have HQ := Lib.hid hq
            have HS := Lib.hid hs
            rw [hq] at y1 e1 HA
            rw [hs] at y3 e2 HAb
            clear hq hs
            generalize wr = w2 at *
            by_cases eq : q = s
            · subst eq
              have HC1 := Lib.hid c1
              have HC2 := Lib.hid c2
              have HE1 := Lib.hid e1
              have HE2 := Lib.hid e2
              go_upto_region 11 with fail
              go_quiet (fail)
              have HB0 : Hid (Below w2.heap.size w2 (w2.drewN nq)) := ⟨rfl, rfl, rfl, Nat.le_refl _, fun _ _ => rfl⟩
              clear c1 c2 e1 e2
              generalize (w2.drewN nq) = w6 at *
              go_wp2_with fail
              go_loopw [7] (fun iv wr => ∃ k : Nat, k ≤ q ∧ iv = .int .i64 (k : Int) ∧ Hid (∀ t (h1 : t < La.length) (h2 : t < Lb.length), t < k → La[t] = Lb[t]) ∧ Hid (Below w2.heap.size w2 wr)) (fun iv _ => q - (intOf iv).toNat)
              case atStart => exact ⟨0, by omega, rfl, (fun j _ _ h => absurd h (Nat.not_lt_zero _)), HB0⟩
              clear HB0
              obtain ⟨k, hk, rfl, HEq3, HB3⟩ := hrel
              have c1 := cell_low HB3.out HC1.out
              have c2 := cell_low HB3.out HC2.out
              have c3 := cell_low HB3.out HE1.out
              have c4 := cell_low HB3.out HE2.out
              by_cases hkq : k < q
              · have jk : (k : Int) < (q : Int) := by omega
                have hkx : k < La.length := by rw [HQ.out]; exact hkq
                have hky : k < Lb.length := by rw [HS.out]; exact hkq
                have hw3 : IntKind.i64.wrap ((k : Int) + 1) = ((k + 1 : Nat) : Int) := by rw [IntKind.wrap_i64]; omega
                obtain ⟨_, _, e', _, _, hc⟩ := HA.out.below HB3.out
                simp only [Value.slice.injEq] at e'
                obtain ⟨rfl, e9, rfl⟩ := e'
                clear e9
                obtain ⟨tb, tu, rfl, _, hc⟩ := hc k hkx
                obtain ⟨_, _, e', _, _, hd⟩ := HAb.out.below HB3.out
                simp only [Value.slice.injEq] at e'
                obtain ⟨rfl, e9, rfl⟩ := e'
                clear e9
                obtain ⟨tb', tu', rfl, _, hd⟩ := hd k hky
                have HNx3 : Hid (La[k] = Lb[k] → ∀ t (h1 : t < La.length) (h2 : t < Lb.length), t < k + 1 → La[t] = Lb[t]) := fun e t h1 h2 h3 => by
                  by_cases h : t = k
                  · subst h; exact e
                  · exact HEq3.out t h1 h2 (by omega)
                have HNo3 : Hid (La[k] ≠ Lb[k] → ¬ La = Lb) := fun e h => e (list_at h _ _)
                generalize La[k] = x at *
                generalize Lb[k] = y at *
                obtain ⟨T1, hT1⟩ : ∃ T1, Value.agg (stE x).toArray = T1 := ⟨_, rfl⟩
                obtain ⟨T2, hT2⟩ : ∃ T2, Value.agg (stE y).toArray = T2 := ⟨_, rfl⟩
                have l1 : ∀ z, (Instr.loadAt 53 (.pointer (some ⟨tb, tu + k * 2, none⟩))).run Tryd.prog (wr.drewN z) = .ok T1 (wr.drewN z) := fun z => by
                  rw [← hT1]
                  exact st_load (w := wr.drewN z) hc
                have l2 : ∀ z, (Instr.loadAt 53 (.pointer (some ⟨tb', tu' + k * 2, none⟩))).run Tryd.prog (wr.drewN z) = .ok T2 (wr.drewN z) := fun z => by
                  rw [← hT2]
                  exact st_load (w := wr.drewN z) hd
                have HT1 := Lib.hid hT1.symm
                have HT2 := Lib.hid hT2.symm
                have HB := HB3
                clear hT1 hT2 hc hd HB3
                by_cases hxy : x = y
                · have HNq : Hid (∀ w, (binOp .neq 53 (.agg (stE x).toArray) (.agg (stE y).toArray)).run Tryd.prog w = .ok (.bool false) w) := fun w => by
                    rw [st_neq, decide_eq_true ((st_iff x y).2 hxy)]
                    rfl
                  have HNz := Lib.hid (HNx3.out hxy)
                  go_upto_region 16 with fail
                  refine wp_region_quiet_lit (by kernel_rfl) (by kernel_rfl) ?_
                  go_big_quiet_step (fail)
                  go_big_quiet_step (fail)
                  go_big_quiet_step (fail)
                  go_big_quiet_step (fail)
                  go_big_quiet_step (fail)
                  go_big_quiet_step (fail)
                  go_big_quiet_step (fail)
                  go_big_quiet_step (fail)
                  go_big_quiet_step (fail)
                  go_big_quiet_step (fail)
                  go_big_quiet_want
                  refine quiet_load_ty 53 (.tmp 96) rfl rfl (fun W hW => by obtain ⟨k, rfl⟩ := hW; exact l1 k) ?_
                  intro a' ha'
                  simp only [Act.put, List.setIfInBounds_toArray, List.set_cons_succ, List.set_cons_zero] at ha'
                  subst ha'
                  go_big_quiet_on
                  go_big_quiet_step (fail)
                  go_big_quiet_step (fail)
                  go_big_quiet_step (fail)
                  go_big_quiet_step (fail)
                  go_big_quiet_step (fail)
                  go_big_quiet_step (fail)
                  go_big_quiet_step (fail)
                  go_big_quiet_step (fail)
                  go_big_quiet_step (fail)
                  go_big_quiet_step (fail)
                  go_big_quiet_want
                  refine quiet_load_ty 53 (.tmp 107) rfl rfl (fun W hW => by obtain ⟨k, rfl⟩ := hW; exact l2 k) ?_
                  intro a' ha'
                  simp only [Act.put, List.setIfInBounds_toArray, List.set_cons_succ, List.set_cons_zero] at ha'
                  subst ha'
                  go_big_quiet_on
                  go_big_quiet_want
                  refine quiet_neq_ty 53 (.tmp 97) (.tmp 108) rfl HT1.out HT2.out st_guard HNq.out rfl rfl ?_
                  intro a' ha'
                  simp only [Act.put, List.setIfInBounds_toArray, List.set_cons_succ, List.set_cons_zero] at ha'
                  subst ha'
                  go_big_quiet_on
                  refine wpQuiet_nil ?_
                  intro W1 hw1'
                  obtain ⟨nq, hw2'⟩ := hw1'
                  subst hw2'
                  have HB1 : Hid (Below w2.heap.size w2 (wr.drewN nq)) := HB.out.trans ⟨rfl, rfl, rfl, Nat.le_refl _, fun _ _ => rfl⟩
                  clear HB l1 l2
                  generalize (wr.drewN nq) = W1 at *
                  go_wp2_with fail
                  go_roundw
                  case rel => exact ⟨k + 1, by omega, rfl, HNz, HB1⟩
                  case measure => simp [intOf]; omega
                · have HNq : Hid (∀ w, (binOp .neq 53 (.agg (stE x).toArray) (.agg (stE y).toArray)).run Tryd.prog w = .ok (.bool true) w) := fun w => by
                    rw [st_neq, decide_eq_false (fun h => hxy ((st_iff x y).1 h))]
                    rfl
                  have HNz : Hid (¬ xs = ys) := HNo.out (fun h => HNo2.out (HNo3.out hxy) (by rw [h]))
                  have HBo : Hid (∀ W, Below w2.heap.size w2 W → Below w.heap.size w W) := fun W h => HBa.out.trans ((HB2.out.trans (h.mono HB2.out.size)).mono HBa.out.size)
                  go_upto_region 16 with fail
                  refine wp_region_quiet_lit (by kernel_rfl) (by kernel_rfl) ?_
                  go_big_quiet_step (fail)
                  go_big_quiet_step (fail)
                  go_big_quiet_step (fail)
                  go_big_quiet_step (fail)
                  go_big_quiet_step (fail)
                  go_big_quiet_step (fail)
                  go_big_quiet_step (fail)
                  go_big_quiet_step (fail)
                  go_big_quiet_step (fail)
                  go_big_quiet_step (fail)
                  go_big_quiet_want
                  refine quiet_load_ty 53 (.tmp 96) rfl rfl (fun W hW => by obtain ⟨k, rfl⟩ := hW; exact l1 k) ?_
                  intro a' ha'
                  simp only [Act.put, List.setIfInBounds_toArray, List.set_cons_succ, List.set_cons_zero] at ha'
                  subst ha'
                  go_big_quiet_on
                  go_big_quiet_step (fail)
                  go_big_quiet_step (fail)
                  go_big_quiet_step (fail)
                  go_big_quiet_step (fail)
                  go_big_quiet_step (fail)
                  go_big_quiet_step (fail)
                  go_big_quiet_step (fail)
                  go_big_quiet_step (fail)
                  go_big_quiet_step (fail)
                  go_big_quiet_step (fail)
                  go_big_quiet_want
                  refine quiet_load_ty 53 (.tmp 107) rfl rfl (fun W hW => by obtain ⟨k, rfl⟩ := hW; exact l2 k) ?_
                  intro a' ha'
                  simp only [Act.put, List.setIfInBounds_toArray, List.set_cons_succ, List.set_cons_zero] at ha'
                  subst ha'
                  go_big_quiet_on
                  go_big_quiet_want
                  refine quiet_neq_ty 53 (.tmp 97) (.tmp 108) rfl HT1.out HT2.out st_guard HNq.out rfl rfl ?_
                  intro a' ha'
                  simp only [Act.put, List.setIfInBounds_toArray, List.set_cons_succ, List.set_cons_zero] at ha'
                  subst ha'
                  go_big_quiet_on
                  refine wpQuiet_nil ?_
                  intro W1 hw1'
                  obtain ⟨nq, hw2'⟩ := hw1'
                  subst hw2'
                  have HB1 : Hid (Below w2.heap.size w2 (wr.drewN nq)) := HB.out.trans ⟨rfl, rfl, rfl, Nat.le_refl _, fun _ _ => rfl⟩
                  clear HB l1 l2
                  generalize (wr.drewN nq) = W1 at *
                  go_wp2_with fail
                  go_ret
                  exact YN.no HNz.out (HBo.out _ HB1.out)
              · have jk : ¬ (k : Int) < (q : Int) := by omega
                have HFin : Hid (La = Lb) := list_eq_of (by rw [HQ.out, HS.out]) (fun t h1 h2 => HEq3.out t h1 h2 (by rw [HQ.out] at h1; omega))
                have HNz := Lib.hid (HNx2.out HFin.out)
                have HB4 : Hid (Below w1.heap.size w1 wr) := HB2.out.trans (HB3.out.mono HB2.out.size)
                go_wp2_with fail
                go_roundw
                case rel => exact ⟨j + 1, by omega, rfl, HNz, HB4⟩
                case measure => simp [intOf]; omega
            · have je : ¬ (q : Int) = (s : Int) := by omega
              have HNz : Hid (¬ xs = ys) := HNo.out (fun h => HNo2.out (fun h' => eq (by rw [← HQ.out, ← HS.out, h'])) (by rw [h]))
              go_upto_region 11 with fail
              go_quiet (fail)
              have HB4 : Hid (Below w1.heap.size w1 (w2.drewN nq)) := HB2.out.trans ⟨rfl, rfl, rfl, Nat.le_refl _, fun _ _ => rfl⟩
              clear c1 c2 e1 e2
              generalize (w2.drewN nq) = w6 at *
              go_wp2_with fail
              go_ret
              exact YN.no HNz.out (HBa.out.trans (HB4.out.mono HBa.out.size))
          · have jj : ¬ (j : Int) < (p : Int) := by omega
            have HFin : Hid (X.lanes = Y.lanes) := list_eq_of (by rw [HP.out, HR.out]) (fun t h1 h2 => HEq2.out t h1 h2 (by rw [HP.out] at h1; omega))
            have HNz := Lib.hid (HNx.out (sc_eq (by rw [HXm.out, HYm.out]) HFin.out))
            have HB4 : Hid (Below w.heap.size w wr) := HBa.out.trans (HB2.out.mono HBa.out.size)
            go_wp2_with fail
            go_roundw
            case rel => exact ⟨i + 1, by omega, rfl, HNz, HB4⟩
            case measure => simp [intOf]; omega
        · have je : ¬ (p : Int) = (r : Int) := by omega
          have HNz : Hid (¬ xs = ys) := HNo.out (fun h => el (by rw [← HP.out, ← HR.out, h]))
          subst em
          go_upto_region 6 with fail
          go_quiet (fail)
          have HB4 : Hid (Below w.heap.size w (w1.drewN nq)) := HBa.out.trans ⟨rfl, rfl, rfl, Nat.le_refl _, fun _ _ => rfl⟩
          clear cm dm cl dl
          generalize (w1.drewN nq) = w6 at *
          go_wp2_with fail
          go_ret
          exact YN.no HNz.out HB4.out
      · have HNz : Hid (¬ xs = ys) := HNo.out (fun h => em (by rw [← HXm.out, ← HYm.out, h]))
        go_upto_region 6 with fail
        go_quiet (fail)
        have HB4 : Hid (Below w.heap.size w (w1.drewN nq)) := HBa.out.trans ⟨rfl, rfl, rfl, Nat.le_refl _, fun _ _ => rfl⟩
        clear cm dm cl dl
        generalize (w1.drewN nq) = w6 at *
        go_wp2_with fail
        go_ret
        exact YN.no HNz.out HB4.out
    · have ji : ¬ (i : Int) < (n : Int) := by omega
      have HFin : Hid (xs = ys) := list_eq_of (by rw [HN.out, HM.out]) (fun j h1 h2 => HEq.out j h1 h2 (by rw [HN.out] at h1; omega))
      go_wp2_with fail
      go_ret
      exact YN.yes HFin.out HB.out
  · have jn : ¬ (n : Int) = (m : Int) := by omega
    have HNe : Hid (¬ xs = ys) := fun h => hnm (by rw [← HN.out, ← HM.out, h])
    go_enter Tryd.func15, Tryd.ntmps15
    go_wp2_with fail
    go_ret
    exact YN.no HNe.out HB0.out
end Go.Proofs.YtinjhgimhboigaaDoor
