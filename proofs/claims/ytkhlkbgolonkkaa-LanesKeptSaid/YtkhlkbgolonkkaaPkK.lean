import Derived.Test.YtkhlkbgolonkkaaPkJ
import Derived.Test.YtkhlkbgolonkkaaLnFltN
import Derived.Test.YtkhlkbgolonkkaaLnRuX
import Derived.Test.YtkhlkbgolonkkaaLnRun
import Derived.Laws.OwnMore
import Derived.Laws.IdiomStrings
import Derived.Test.YtkhlkbgolonkkaaLnSl
/- Lanes: the document's own Flatten of any lane. Own work. -/
namespace Go.Proofs.Ytkhlkbgolonkkaa
open Go.RowKit
set_option linter.unusedVariables false
/-- who runs at which tick -/
def whoT (nd : Bool) (xs : List R4) : Nat → Option Nat := if nd = true then bestT xs else whoR xs 0
/-- what Flatten answers -/
noncomputable def flE (m : Nat) (nd : Bool) (xs : List R4) : Int × Int × List S3 :=
  if m = 0 ∨ 65536 < m then (-1, 92, []) else if (refF m nd m 0 xs).2 ≠ 0 then (((refF m nd m 0 xs).1 : Int), (refF m nd m 0 xs).2, []) else if 4096 < (tickR xs (whoT nd xs) m).length then (-1, 4, []) else (0, 0, tickR xs (whoT nd xs) m)
theorem wpList_append3s {w : World} {base : Nat} {ops : Array Oper} {rest : List Oper} {o : Oper} {a : Act} {Q : Exit → Act → World → Prop} (hgd : o.guard = none) (s x : Operand)
    (ho : o.op = .call { callee := .builtin .append, args := #[s, x], argTypes := #[31, 31] }) {v : Value} {xs : List S3} {t : S3} {g cap : Nat} (hown : OwnS w base v xs) (hs : a.eval s = v) (hx : a.eval x = .slice (some ⟨g, 0, none⟩) 1 cap) (hg : B3 w g t) (hb : xs.length ≤ 1048576) (hbase : base ≤ w.heap.size)
    (h : ∀ va vn vc w', Hid (vn = xs.length + 1) → Hid (OwnS w' base (.slice va vn vc) (xs ++ [t])) → Hid (w.grownBy w' v.ownBlock) → wpList Try.prog ops Q rest (a.put o.dst (.slice va vn vc)) w') : wpList Try.prog ops Q (o :: rest) a w :=
  wpList_plain hgd fun K hK => by
    obtain ⟨v', w', hr, h2, h3, h4⟩ := run_append3 31 o.type Try.underlying31 hown hg hb hbase (cap := cap)
    obtain ⟨va, vc, rfl⟩ := h2.form
    rw [List.length_append, List.length_singleton] at hr h2
    unfold Oper.wp execOp
    simp only [ho, resolve, invoke, builtin, Sem.run_bind, Sem.run_pure, Result.andThen_ok, List.map_toArray, List.map_cons, List.map_nil, hs, hx, hr]
    exact hK _ _ (h va _ vc w' rfl h2 h3)
theorem adds_first {s : ByteArray} : adds [] s 1 = [⟨s, 0, 1⟩] := by
  unfold adds
  rw [if_neg (by decide)]
  rfl
theorem adds_grow {ys : List S3} {l : S3} {s : ByteArray} (h : (l.s.toList == s.toList) = true) : adds (ys ++ [l]) s 1 = ys ++ [⟨l.s, l.f, l.t + 1⟩] := by
  unfold adds
  rw [if_neg (by decide)]
  simp [h]
theorem adds_next {ys : List S3} {l : S3} {s : ByteArray} (h : (l.s.toList == s.toList) = false) : adds (ys ++ [l]) s 1 = ys ++ [l] ++ [⟨s, l.t, l.t + 1⟩] := by
  unfold adds
  rw [if_neg (by decide)]
  simp [h]
theorem whoT_lt {nd : Bool} {xs : List R4} {t j : Nat} (h : whoT nd xs t = some j) : j < xs.length := by
  unfold whoT at h
  cases nd with
  | true =>
    rw [if_pos rfl] at h
    exact ((bestI_spec (Lr xs t) (dueT xs t) xs.length).2 j h).1
  | false =>
    rw [if_neg (by decide)] at h
    by_cases hs : t < sumN xs
    · obtain ⟨i, a1, a2, a3⟩ := ex_run xs t hs
      rw [whoR_at xs 0 i t a1 a2 a3] at h
      simp at h
      omega
    · rw [whoR_none xs 0 t (by omega)] at h
      cases h
theorem needs_len : ∀ (xs : List R4) (m : Nat), (∀ r ∈ xs, 1 ≤ r.b ∧ 1 ≤ r.p ∧ r.p ≤ m) → xs.length ≤ wantN m xs
  | [], _, _ => Nat.le_refl _
  | x :: r, m, h => by
    have h1 := needs_len r m (fun y hy => h y (List.mem_cons_of_mem _ hy))
    have h2 := h x List.mem_cons_self
    have h3 : 1 ≤ m / x.p := (Nat.le_div_iff_mul_le (by omega)).2 (by omega)
    have h4 : 1 ≤ x.b * (m / x.p) := Nat.mul_pos h2.1 h3
    simp only [List.length_cons, wantN]
    omega
/-- the document's Ticks of any lane that is right -/
theorem ticks_any {w : World} {v : Value} {xs : List R4} {m : Nat} {q cp : Int} {nd : Bool} (h : Rn w v xs) (hm0 : 1 ≤ m) (hm : m ≤ 65536) (hr : (refF m nd m 0 xs).2 = 0) : Calls Try.prog 30 #[.int .i64 (m : Int), .agg #[.int .i64 q, .int .u64 cp, .bool nd, v]] w fun e w' => ∃ g, e = .returned (.slice (some ⟨g, 0, none⟩) m m) ∧ Tk w' g m (tkL (whoT nd xs) m) ∧ w.heap.size ≤ g ∧ Below w.heap.size w w' := by
  cases nd with
  | false =>
    obtain ⟨a1, _, _⟩ := refF_ok _ _ _ hr
    exact ticks_runs h hm a1
  | true =>
    obtain ⟨⟨a1, a2, a3⟩, a4⟩ := refN_ok hm _ _ _ hr
    have hpm : ∀ r ∈ xs, r.p ≤ m := fun r hm' => by
      have h5 := a1 r hm'
      exact Nat.le_of_dvd (by omega) (Nat.dvd_of_mod_eq_zero (by omega))
    refine ticks_needs h hm (fun r hm' => ?_) ?_
    · have h5 := a1 r hm'
      have h8 := hpm r hm'
      have h6 := a4 r hm'
      exact ⟨by omega, h6.1, by omega, by omega, h6.2⟩
    · have h7 := needs_len xs m (fun r hm' => by have := a1 r hm'; have := hpm r hm'; omega)
      omega
set_option maxRecDepth 100000 in
set_option maxHeartbeats 8000000 in
theorem rFlatten_any {w : World} {v : Value} {xs : List R4} {m : Nat} {q cp : Int} {nd : Bool} (h : Rn w v xs) : Calls Try.prog 11 #[.int .u64 (m : Int), .agg #[.int .i64 q, .int .u64 cp, .bool nd, v]] w fun e w' => ∃ u, e = .returned (.tuple #[u, .int .i64 (flE m nd xs).1, .int .i64 (flE m nd xs).2.1]) ∧ OwnS w' w.heap.size u (flE m nd xs).2.2 ∧ Below w.heap.size w w' := by
  have HLx0 := Lib.hid (Lx.start (lane := #[.int .i64 q, .int .u64 cp, .bool nd, v]) h)
  obtain ⟨ao, cap, rfl, h1, h2, h3, h4⟩ := h
  clear h3 h4
  unfold maxLen at h2
  obtain ⟨n, hn⟩ : ∃ n, xs.length = n := ⟨_, rfl⟩
  have HN := Lib.hid hn
  rw [hn] at h1 HLx0 ⊢
  clear hn
  unfold flE
  by_cases hm0 : m < 1
  · rw [if_pos (by omega)]
    have j0 : (m : Int) < 1 := by omega
    go_enter Try.func11, Try.ntmps11
    go_wp2_with fail
    go_ret3
    exact ⟨_, rfl, OwnS.nil _ _, HLx0.out.below⟩
  have j0 : ¬ (m : Int) < 1 := by omega
  by_cases hm1 : 65536 < m
  · rw [if_pos (by omega)]
    have j1 : (65536 : Int) < (m : Int) := by omega
    go_enter Try.func11, Try.ntmps11
    go_wp2_with fail
    go_ret3
    exact ⟨_, rfl, OwnS.nil _ _, HLx0.out.below⟩
  have j1 : ¬ (65536 : Int) < (m : Int) := by omega
  rw [if_neg (by omega)]
  have HM : Hid (1 ≤ m ∧ m ≤ 65536) := ⟨by omega, by omega⟩
  obtain ⟨RV, hRV⟩ : ∃ R, refF m nd m 0 xs = R := ⟨_, rfl⟩
  rw [hRV]
  obtain ⟨FV, hFV⟩ : ∃ FV, (if RV.2 ≠ 0 then ((RV.1 : Int), RV.2, ([] : List S3)) else if 4096 < (tickR xs (whoT nd xs) m).length then (-1, 4, []) else (0, 0, tickR xs (whoT nd xs) m)) = FV := ⟨_, rfl⟩
  rw [hFV]
  have HFV := Lib.hid hFV
  clear hFV
  have HR0 : Hid (refF m nd (m - 0) 0 (xs.drop 0) = RV) := hRV
  have HRV := Lib.hid hRV
  have x3 : (w.alloc (.cells #[.int .i64 q, .int .u64 cp, .bool nd, .slice ao n cap] 25)).cell? ⟨w.heap.size, 3, none⟩ = some (.slice ao n cap) := by rw [cell_of_row _ _ _ _ _ _ HLx0.out.lb]; rfl
  have dj0 : decide ((m : Int) < 1) = false := decide_eq_false j0
  have dj1 : decide ((65536 : Int) < (m : Int)) = false := decide_eq_false j1
  clear hm0 hm1 hRV j0 j1
  go_enter Try.func11, Try.ntmps11
  go_wp2_with fail
  go_loopw [7, 8] (fun sv iv wr => ∃ (i s : Nat), i ≤ n ∧ iv = .int .i64 (i : Int) ∧ sv = .int .u64 (s : Int) ∧ s ≤ m ∧ Hid (refF m nd (m - s) i (xs.drop i) = RV) ∧ Hid (Lx w wr #[.int .i64 q, .int .u64 cp, .bool nd, .slice ao n cap] (.slice ao n cap) xs)) (fun _ iv _ => n - (intOf iv).toNat)
  case atStart => exact ⟨0, 0, by omega, rfl, rfl, by omega, HR0, HLx0⟩
  case round =>
    clear HLx0 HR0 x3
    obtain ⟨i, s, hi, rfl, rfl, hs, HE, HL⟩ := hrel
    have y3 : wr.cell? ⟨w.heap.size, 3, none⟩ = some (.slice ao n cap) := by rw [cell_of_row _ _ _ _ _ _ HL.out.lb]; rfl
    by_cases hin : i < n
    · have hix : i < xs.length := by rw [HN.out]; exact hin
      have ji : (i : Int) < (n : Int) := by omega
      have hw1 : IntKind.i64.wrap ((i : Int) + 1) = ((i + 1 : Nat) : Int) := by rw [IntKind.wrap_i64]; omega
      obtain ⟨_, _, e', _, _, _, hc⟩ := HL.out.rn
      simp only [Value.slice.injEq] at e'
      obtain ⟨rfl, hNn, rfl⟩ := e'
      clear hNn
      obtain ⟨b, of, rfl, c0, c1, c2, c3⟩ := hc i hix
      have y2 : wr.cell? ⟨w.heap.size, 2, none⟩ = some (.bool nd) := by rw [cell_of_row _ _ _ _ _ _ HL.out.lb]; rfl
      have HD : Hid (refF m nd (m - s) i (xs[i] :: xs.drop (i + 1)) = RV) := by
        have := HE.out
        rw [List.drop_eq_getElem_cons hix] at this
        exact this
      have HRc : Hid (∀ W, Lx w W #[.int .i64 q, .int .u64 cp, .bool nd, .slice (some ⟨b, of, none⟩) n cap] (.slice (some ⟨b, of, none⟩) n cap) xs → W.cell? ⟨w.heap.size, 2, none⟩ = some (.bool nd) ∧ W.cell? ⟨w.heap.size, 3, none⟩ = some (.slice (some ⟨b, of, none⟩) n cap) ∧ W.cell? ⟨b, of + i * 4, none⟩ = some (.int .i64 xs[i].k) ∧ W.cell? ⟨b, of + i * 4 + 1, none⟩ = some (.string xs[i].s) ∧ W.cell? ⟨b, of + i * 4 + 2, none⟩ = some (.int .u64 (xs[i].b : Int)) ∧ W.cell? ⟨b, of + i * 4 + 3, none⟩ = some (.int .u64 (xs[i].p : Int))) := fun W hW => by
        obtain ⟨_, _, e', _, _, _, hc⟩ := hW.rn
        simp only [Value.slice.injEq] at e'
        obtain ⟨rfl, _, rfl⟩ := e'
        obtain ⟨b', of', e2, c0, c1, c2, c3⟩ := hc i hix
        cases e2
        exact ⟨by rw [cell_of_row _ _ _ _ _ _ hW.lb]; rfl, by rw [cell_of_row _ _ _ _ _ _ hW.lb]; rfl, c0, c1, c2, c3⟩
      clear hc HE
      generalize xs[i] = x at *
      have HWr : Hid (∀ W, Below wr.heap.size wr W → Calls Try.prog 28 #[.int .u64 (m : Int), .agg #[.int .i64 x.k, .string x.s, .int .u64 (x.b : Int), .int .u64 (x.p : Int)], .bool nd] W fun e w' => e = .returned (.int .i64 (wantsF m nd x).2) ∧ (w'.cell? ⟨w.heap.size, 2, none⟩ = some (.bool nd) ∧ w'.cell? ⟨w.heap.size, 3, none⟩ = some (.slice (some ⟨b, of, none⟩) n cap) ∧ w'.cell? ⟨b, of + i * 4, none⟩ = some (.int .i64 x.k) ∧ w'.cell? ⟨b, of + i * 4 + 1, none⟩ = some (.string x.s) ∧ w'.cell? ⟨b, of + i * 4 + 2, none⟩ = some (.int .u64 (x.b : Int)) ∧ w'.cell? ⟨b, of + i * 4 + 3, none⟩ = some (.int .u64 (x.p : Int))) ∧ Hid (Lx w w' #[.int .i64 q, .int .u64 cp, .bool nd, .slice (some ⟨b, of, none⟩) n cap] (.slice (some ⟨b, of, none⟩) n cap) xs)) := fun W hW => (rWrong_any (r := x) HM.out.1 W).mono fun e w' ⟨he, hb⟩ => by
        have hx := (HL.out.go hW).go hb
        exact ⟨he, HRc.out _ hx, hx⟩
      have hle := wantsF_le m nd x
      unfold refF at HD
      go_upto_region 7 with fail
      go_cut [9] (fun ev wx => ev = .int .i64 (wantsF m nd x).2 ∧ Hid (Lx w wx #[.int .i64 q, .int .u64 cp, .bool nd, .slice (some ⟨b, of, none⟩) n cap] (.slice (some ⟨b, of, none⟩) n cap) xs))
      case first =>
        generalize wantsF m nd x = z at *
        obtain ⟨t, er⟩ := z
        simp only at hle HD HWr ⊢
        obtain ⟨xk, x_s, xb, xp⟩ := x
        simp only at c0 c1 c2 c3 HWr HRc
        go_region_held3 (fun w' => w'.cell? ⟨w.heap.size, 2, none⟩ = some (.bool nd) ∧ w'.cell? ⟨w.heap.size, 3, none⟩ = some (.slice (some ⟨b, of, none⟩) n cap) ∧ w'.cell? ⟨b, of + i * 4, none⟩ = some (.int .i64 xk) ∧ w'.cell? ⟨b, of + i * 4 + 1, none⟩ = some (.string x_s) ∧ w'.cell? ⟨b, of + i * 4 + 2, none⟩ = some (.int .u64 (xb : Int)) ∧ w'.cell? ⟨b, of + i * 4 + 3, none⟩ = some (.int .u64 (xp : Int))) (go_keep) (first | (go_at_call 28; refine (HWr.out _ (Below.refl _ _).drew).mono ?_; rintro e w9 ⟨rfl, ⟨k2, k3, k4, k5, k6, k7⟩, HL9⟩))
        all_goals
          go_wp2_with fail
          go_meet
          exact ⟨rfl, HL9⟩
      case rest =>
        obtain ⟨rfl, HL2⟩ := hcut
        clear HWr c0 c1 c2 c3 y2 y3 HL
        by_cases h5 : (wantsF m nd x).2 = 0
        · have HWn : Hid (∀ W, Below wc.heap.size wc W → Calls Try.prog 29 #[.int .u64 (m : Int), .agg #[.int .i64 x.k, .string x.s, .int .u64 (x.b : Int), .int .u64 (x.p : Int)], .bool nd] W fun e w' => e = .returned (.int .u64 ((wantsF m nd x).1 : Int)) ∧ (w'.cell? ⟨w.heap.size, 2, none⟩ = some (.bool nd) ∧ w'.cell? ⟨w.heap.size, 3, none⟩ = some (.slice (some ⟨b, of, none⟩) n cap) ∧ w'.cell? ⟨b, of + i * 4, none⟩ = some (.int .i64 x.k) ∧ w'.cell? ⟨b, of + i * 4 + 1, none⟩ = some (.string x.s) ∧ w'.cell? ⟨b, of + i * 4 + 2, none⟩ = some (.int .u64 (x.b : Int)) ∧ w'.cell? ⟨b, of + i * 4 + 3, none⟩ = some (.int .u64 (x.p : Int))) ∧ Hid (Lx w w' #[.int .i64 q, .int .u64 cp, .bool nd, .slice (some ⟨b, of, none⟩) n cap] (.slice (some ⟨b, of, none⟩) n cap) xs)) := fun W hW => (rWants_any (r := x) HM.out.2 h5 W).mono fun e w' ⟨he, hb⟩ => by
            have hx := (HL2.out.go hW).go hb
            exact ⟨he, HRc.out _ hx, hx⟩
          obtain ⟨y2, y3, c0, c1, c2, c3⟩ := HRc.out _ HL2.out
          have hmm := HM.out
          have HD2 : Hid ((if m - s < (wantsF m nd x).1 then (i, (93 : Int)) else refF m nd (m - s - (wantsF m nd x).1) (i + 1) (xs.drop (i + 1))) = RV) := by
            have h6 := HD.out
            simp only [ne_eq, h5, not_true_eq_false, if_false] at h6
            exact h6
          rw [h5]
          clear HD h5 HRc
          generalize (wantsF m nd x).1 = t at *
          have hst : IntKind.u64.wrap ((s : Int) + (t : Int)) = ((s + t : Nat) : Int) := by rw [IntKind.wrap_u64]; omega
          clear hmm
          obtain ⟨xk, x_s, xb, xp⟩ := x
          simp only at c0 c1 c2 c3 HWn
          go_upto_region 10 with fail
          go_cut [7] (fun sv wx => sv = .int .u64 ((s + t : Nat) : Int) ∧ Hid (Lx w wx #[.int .i64 q, .int .u64 cp, .bool nd, .slice (some ⟨b, of, none⟩) n cap] (.slice (some ⟨b, of, none⟩) n cap) xs))
          case first =>
            go_region_held3 (fun w' => w'.cell? ⟨w.heap.size, 2, none⟩ = some (.bool nd) ∧ w'.cell? ⟨w.heap.size, 3, none⟩ = some (.slice (some ⟨b, of, none⟩) n cap) ∧ w'.cell? ⟨b, of + i * 4, none⟩ = some (.int .i64 xk) ∧ w'.cell? ⟨b, of + i * 4 + 1, none⟩ = some (.string x_s) ∧ w'.cell? ⟨b, of + i * 4 + 2, none⟩ = some (.int .u64 (xb : Int)) ∧ w'.cell? ⟨b, of + i * 4 + 3, none⟩ = some (.int .u64 (xp : Int))) (go_keep) (first | (go_at_call 29; refine (HWn.out _ (Below.refl _ _).drew).mono ?_; rintro e w9 ⟨rfl, ⟨k2, k3, k4, k5, k6, k7⟩, HL9⟩))
            all_goals
              go_wp2_with fail
              go_meet
              exact ⟨rfl, HL9⟩
          case rest =>
            obtain ⟨rfl, HL3⟩ := hcut
            clear HWn HL2 y2 y3 c0 c1 c2 c3
            by_cases h6 : m < s + t
            · have j6 : (m : Int) < ((s + t : Nat) : Int) := by omega
              have HD3 : Hid ((i, (93 : Int)) = RV) := by
                have h7 := HD2.out
                rw [if_pos (by omega)] at h7
                exact h7
              have HFe : Hid (FV = ((i : Int), 93, [])) := by show _ = _; rw [← HFV.out, ← HD3.out, if_pos (by simp)]
              clear HD2 h6
              generalize s + t = st at *
              go_wp2_with fail
              go_ret3
              rw [HFe.out]
              exact ⟨_, rfl, OwnS.nil _ _, HL3.out.below⟩
            · have j6 : ¬ (m : Int) < ((s + t : Nat) : Int) := by omega
              have HD3 : Hid (refF m nd (m - (s + t)) (i + 1) (xs.drop (i + 1)) = RV) := by
                have h7 := HD2.out
                rw [if_neg (by omega), Nat.sub_sub] at h7
                exact h7
              have hst2 : s + t ≤ m := by omega
              clear HD2 h6
              generalize s + t = st at *
              go_wp2_with fail
              go_roundw
              case rel => exact ⟨i + 1, st, by omega, rfl, rfl, hst2, HD3, HL3⟩
              case measure => simp [intOf]; omega
        · have HD2 : Hid ((i, (wantsF m nd x).2) = RV) := by
            have h6 := HD.out
            simp only [ne_eq, h5, not_false_eq_true, if_true] at h6
            exact h6
          have HFe : Hid (FV = ((i : Int), (wantsF m nd x).2, [])) := by show _ = _; rw [← HFV.out, ← HD2.out, if_pos h5]
          clear HD HRc hle
          generalize (wantsF m nd x).2 = er at *
          go_wp2_with fail
          go_ret3
          rw [HFe.out]
          exact ⟨_, rfl, OwnS.nil _ _, HL2.out.below⟩
    · obtain rfl : i = n := by omega
      have ji : ¬ (i : Int) < (i : Int) := by omega
      have HE2 : Hid (RV = (0, 0)) := by
        have h6 := HE.out
        rw [List.drop_of_length_le (by rw [HN.out]; exact Nat.le_refl _)] at h6
        exact h6.symm
      have hr0 : (refF m nd m 0 xs).2 = 0 := by rw [HRV.out, HE2.out]
      have HFe : Hid (FV = if 4096 < (tickR xs (whoT nd xs) m).length then (-1, 4, []) else (0, 0, tickR xs (whoT nd xs) m)) := by show _ = _; rw [← HFV.out, HE2.out, if_neg (by simp)]
      have HTk := Lib.hid (ticks_any (q := q) (cp := cp) HL.out.rn HM.out.1 HM.out.2 hr0)
      have z0 : wr.cell? ⟨w.heap.size, 0, none⟩ = some (.int .i64 q) := by rw [cell_of_row _ _ _ _ _ _ HL.out.lb]; rfl
      have z1 : wr.cell? ⟨w.heap.size, 1, none⟩ = some (.int .u64 cp) := by rw [cell_of_row _ _ _ _ _ _ HL.out.lb]; rfl
      have z2 : wr.cell? ⟨w.heap.size, 2, none⟩ = some (.bool nd) := by rw [cell_of_row _ _ _ _ _ _ HL.out.lb]; rfl
      have hmw : IntKind.i64.wrap (m : Int) = (m : Int) := by have := HM.out; rw [IntKind.wrap_i64]; omega
      clear hr0 HE HE2 HRV HFV
      go_wp2_with fail
      refine HTk.out.mono ?_
      rintro e w4 ⟨g, rfl, htk, hg, hb4⟩
      have HL4 := Lib.hid (HL.out.go hb4)
      have HT4 := Lib.hid htk
      have hgl : g < w4.heap.size := htk.lt
      have hwg : w.heap.size < w4.heap.size := (Array.getElem?_eq_some_iff.1 HL4.out.lb).1
      clear htk hb4 HTk z0 z1 z2 y3 HL
      obtain ⟨wA, hwA⟩ : ∃ wA, wA = wr := ⟨_, rfl⟩
      subst hwA
      have HWl : Hid (∀ t j, whoT nd xs t = some j → j < xs.length) := fun t j h => whoT_lt h
      generalize whoT nd xs = TT at *
      have HTc : Hid (∀ W, Below w4.heap.size w4 W → ∀ t, t < m → W.cell? ⟨g, t, none⟩ = some (.int .i64 (fI (TT t)))) := fun W hW t ht => by
        rw [(HT4.out.below hW).cell t (by rw [tkL_len]; exact ht), tkL_get]
      have HLc : Hid (∀ W, Below w4.heap.size w4 W → Lx w W #[.int .i64 q, .int .u64 cp, .bool nd, .slice ao i cap] (.slice ao i cap) xs) := fun W hW => HL4.out.go hW
      have HO0 : Hid (OwnS w4 w4.heap.size (.slice none 0 0) (tickR xs TT 0)) := OwnS.nil _ _
      go_wp2_with fail
      go_loopw [11, 12] (fun ov tv wr => ∃ (t L oc : Nat) (oa : Option Addr), t ≤ m ∧ tv = .int .i64 (t : Int) ∧ ov = .slice oa L oc ∧ Hid (L = (tickR xs TT t).length) ∧ Hid (OwnS wr w4.heap.size (.slice oa L oc) (tickR xs TT t)) ∧ Hid (Below w4.heap.size w4 wr)) (fun _ tv _ => m - (intOf tv).toNat)
      case atStart => exact ⟨0, 0, 0, none, by omega, rfl, rfl, rfl, HO0, Below.refl _ _⟩
      case round =>
        clear HO0
        obtain ⟨t, L, oc, oa, ht, rfl, rfl, HLn, HO, HB⟩ := hrel
        by_cases htm : t < m
        · have jt : (t : Int) < (m : Int) := by omega
          have hmm := HM.out
          have hwt : IntKind.i64.wrap ((t : Int) + 1) = ((t + 1 : Nat) : Int) := by rw [IntKind.wrap_i64]; omega
          have hLt : L ≤ t := by rw [HLn.out]; exact tickR_len xs TT t
          have k1 := HTc.out wr HB.out t htm
          obtain ⟨o, ho⟩ : ∃ o, TT t = o := ⟨_, rfl⟩
          rw [ho] at k1
          have HTt := Lib.hid ho
          clear ho
          go_upto_if 69 with fail
          go_cut [13] (fun sv wx => sv = .string (subj xs o) ∧ Hid (Below wr.heap.size wr wx))
          case first =>
            cases o with
            | none =>
              have j9 : ¬ (0 : Int) ≤ (-1 : Int) := by omega
              simp only [fI] at k1 ⊢
              go_wp2_with fail
              go_meet
              exact ⟨rfl, Below.refl _ _⟩
            | some j =>
              have hjx : j < xs.length := HWl.out t j HTt.out
              have j9 : (0 : Int) ≤ (j : Int) := by omega
              have j8 : (j : Int) < (i : Int) := by have := HN.out; omega
              have hlx := HLc.out wr HB.out
              have y3 : wr.cell? ⟨w.heap.size, 3, none⟩ = some (.slice ao i cap) := by rw [cell_of_row _ _ _ _ _ _ hlx.lb]; rfl
              obtain ⟨_, _, e', _, _, _, hc⟩ := hlx.rn
              simp only [Value.slice.injEq] at e'
              obtain ⟨rfl, hNn, rfl⟩ := e'
              clear hNn
              obtain ⟨b, of, rfl, c0, c1, c2, c3⟩ := hc j hjx
              have HSj : Hid (subj xs (some j) = xs[j].s) := subj_some xs j hjx
              clear c0 c2 c3 hc hlx
              generalize xs[j].s = sj at *
              simp only [fI] at k1 ⊢
              go_wp2_with fail
              go_quiet (fail)
              go_wp2_with fail
              go_meet
              exact ⟨by rw [HSj.out], bdk (Below.refl _ _) _⟩
          case rest =>
            obtain ⟨rfl, HBc⟩ := hcut
            have HO2 := Lib.hid (HO.out.below HBc.out)
            have HB2 : Hid (Below w4.heap.size w4 wc) := HB.out.trans (HBc.out.mono HB.out.size)
            have HTn : Hid (tickR xs TT (t + 1) = adds (tickR xs TT t) (subj xs o) 1) := by show _ = _; rw [← HTt.out]; rfl
            have HEn := Lib.hid (tickR_end xs TT t)
            clear HO HB HBc k1 HTt
            generalize tickR xs TT t = rs at *
            generalize subj xs o = S at *
            rcases List.eq_nil_or_concat rs with rfl | ⟨ys, l, rfl⟩
            · have hL0 : L = 0 := HLn.out
              have ht0 : (0 : Int) = (t : Int) := HEn.out
              have jL : ¬ (0 : Int) < (L : Int) := by omega
              have dL : decide ((0 : Int) < (L : Int)) = false := decide_eq_false jL
              have HT0 : Hid (t = 0) := by show _ = _; omega
              have HBS : Hid (B3 (wc.alloc (.cells #[.string S, .int .i64 (t : Int), .int .i64 ((t + 1 : Nat) : Int)] 37)) wc.heap.size ⟨S, (t : Int), ((t + 1 : Nat) : Int)⟩) := Array.getElem?_push_size (xs := wc.heap)
              have HOa := Lib.hid (HO2.out.below ((Below.refl _ _).alloc (Nat.le_refl _) (.cells #[.string S, .int .i64 (t : Int), .int .i64 ((t + 1 : Nat) : Int)] 37)))
              have HNx : Hid (∀ va vn vc w2, vn = ([] : List S3).length + 1 → OwnS w2 w4.heap.size (.slice va vn vc) ([] ++ [⟨S, (t : Int), ((t + 1 : Nat) : Int)⟩]) → (wc.alloc (.cells #[.string S, .int .i64 (t : Int), .int .i64 ((t + 1 : Nat) : Int)] 37)).grownBy w2 (Value.slice oa L oc).ownBlock → vn = (tickR xs TT (t + 1)).length ∧ OwnS w2 w4.heap.size (.slice va vn vc) (tickR xs TT (t + 1)) ∧ Below w4.heap.size w4 w2) := fun va vn vc w2 a1 a2 a3 => by
                have e1 : tickR xs TT (t + 1) = [⟨S, (t : Int), ((t + 1 : Nat) : Int)⟩] := by rw [HTn.out, adds_first, HT0.out]; rfl
                rw [e1]
                exact ⟨a1, a2, (HB2.out.alloc HB2.out.size _).grown a3 (by simp; exact Nat.le_succ_of_le HB2.out.size) (fun k hk => (HO2.out.lt k hk).1)⟩
              have HBs : Hid (w4.heap.size ≤ wc.heap.size) := HB2.out.size
              clear HTn HLn HEn hL0 ht0
              go_wp2_with (at_builtin; refine wpList_append3s rfl (.tmp 103) (.tmp 109) rfl HOa.out rfl rfl HBS.out (by simp) (Nat.le_trans HBs.out (by simp)) ?_; intro va vn vc w2 a1 a2 a3; have HN3 := Lib.hid (HNx.out _ _ _ _ a1.out a2.out a3.out); clear a1 a2 a3)
              go_roundw
              case rel => exact ⟨t + 1, vn, vc, va, by omega, rfl, rfl, HN3.out.1, HN3.out.2.1, HN3.out.2.2⟩
              case measure => simp [intOf]; omega
            · rw [List.concat_eq_append] at *
              have hlt : l.t = (t : Int) := by rw [← endF_last ys l]; exact HEn.out
              have hL1 : L = ys.length + 1 := by rw [HLn.out]; simp
              obtain ⟨go, co, hov, hgo1, hgo2, hco, hcm⟩ := HO2.out.pos (by simp)
              simp only [Value.slice.injEq] at hov
              obtain ⟨rfl, hLL, rfl⟩ := hov
              clear hLL
              obtain ⟨qn, hqn⟩ : ∃ qn, qn = ys.length := ⟨_, rfl⟩
              have gl : (ys ++ [l])[qn]'(by simp [hqn]) = l := by simp [hqn]
              have c0 := HO2.out.cell qn 0 (by simp [hqn]) (by omega)
              have c2 := HO2.out.cell qn 2 (by simp [hqn]) (by omega)
              rw [gl] at c0 c2
              simp only [enc3, List.getElem?_cons_zero, List.getElem?_cons_succ, Nat.add_zero, hlt] at c0 c2
              have gf := HO2.out.thawed (qn * 3 + 2)
              have hLm : IntKind.i64.wrap ((L : Int) - 1) = (qn : Int) := by rw [IntKind.wrap_i64]; omega
              have jL0 : (0 : Int) < (L : Int) := by omega
              have dL0 : decide ((0 : Int) < (L : Int)) = true := decide_eq_true jL0
              have jq : (qn : Int) < (L : Int) := by omega
              have HBs : Hid (w4.heap.size ≤ wc.heap.size) := HB2.out.size
              have HQ := Lib.hid hqn
              have HL1 := Lib.hid hL1
              unfold maxLen at hcm
              have hLco : L ≤ oc := by rw [hL1]; simpa using hco
              clear gl hqn hL1 hco HEn HLn
              cases hbb : (l.s.toList == S.toList) with
              | true =>
                have HNx : Hid (tickR xs TT (t + 1) = ys ++ [⟨l.s, l.f, (t : Int) + 1⟩]) := by show _ = _; rw [HTn.out, adds_grow hbb, hlt]
                have HOn : Hid (OwnS (wc.setCell ⟨go, qn * 3 + 2, none⟩ (.int .i64 ((t + 1 : Nat) : Int))) w4.heap.size (.slice (some ⟨go, 0, none⟩) L oc) (tickR xs TT (t + 1))) := by
                  have h9 := HO2.out.grow (u := ((t + 1 : Nat) : Int))
                  rw [← HQ.out] at h9
                  rw [HNx.out]
                  exact h9
                have HBn : Hid (Below w4.heap.size w4 (wc.setCell ⟨go, qn * 3 + 2, none⟩ (.int .i64 ((t + 1 : Nat) : Int)))) := HB2.out.setCell hgo1 _
                have HLn2 : Hid (L = (tickR xs TT (t + 1)).length) := by show _ = _; rw [HNx.out, HL1.out]; simp
                clear HTn HNx hlt HO2 HB2
                obtain ⟨ls, lf, lt⟩ := l
                simp only at c0 c2 hbb
                go_wp2_with fail
                go_roundw
                case rel => exact ⟨t + 1, L, oc, _, by omega, rfl, rfl, HLn2, HOn, HBn⟩
                case measure => simp [intOf]; omega
              | false =>
                have HBS : Hid (B3 (wc.alloc (.cells #[.string S, .int .i64 (t : Int), .int .i64 ((t + 1 : Nat) : Int)] 37)) wc.heap.size ⟨S, (t : Int), ((t + 1 : Nat) : Int)⟩) := Array.getElem?_push_size (xs := wc.heap)
                have HOa := Lib.hid (HO2.out.below ((Below.refl _ _).alloc (Nat.le_refl _) (.cells #[.string S, .int .i64 (t : Int), .int .i64 ((t + 1 : Nat) : Int)] 37)))
                have HLl : Hid ((ys ++ [l]).length ≤ 1048576) := by show _ ≤ _; rw [List.length_append, List.length_singleton, ← HL1.out]; omega
                have HNx : Hid (∀ va vn vc w2, vn = (ys ++ [l]).length + 1 → OwnS w2 w4.heap.size (.slice va vn vc) (ys ++ [l] ++ [⟨S, (t : Int), ((t + 1 : Nat) : Int)⟩]) → (wc.alloc (.cells #[.string S, .int .i64 (t : Int), .int .i64 ((t + 1 : Nat) : Int)] 37)).grownBy w2 (Value.slice (some ⟨go, 0, none⟩) L oc).ownBlock → vn = (tickR xs TT (t + 1)).length ∧ OwnS w2 w4.heap.size (.slice va vn vc) (tickR xs TT (t + 1)) ∧ Below w4.heap.size w4 w2) := fun va vn vc w2 a1 a2 a3 => by
                  have e1 : tickR xs TT (t + 1) = ys ++ [l] ++ [⟨S, (t : Int), ((t + 1 : Nat) : Int)⟩] := by rw [HTn.out, adds_next hbb, hlt]; rfl
                  rw [e1]
                  exact ⟨by rw [a1]; simp, a2, (HB2.out.alloc HB2.out.size _).grown a3 (by simp; exact Nat.le_succ_of_le HB2.out.size) (fun k hk => (HO2.out.lt k hk).1)⟩
                clear HTn hlt
                obtain ⟨ls, lf, lt⟩ := l
                simp only at c0 c2 hbb
                go_wp2_with (at_builtin; refine wpList_append3s rfl (.tmp 103) (.tmp 109) rfl HOa.out rfl rfl HBS.out HLl.out (Nat.le_trans HBs.out (by simp)) ?_; intro va vn vc w2 a1 a2 a3; have HN3 := Lib.hid (HNx.out _ _ _ _ a1.out a2.out a3.out); clear a1 a2 a3)
                go_roundw
                case rel => exact ⟨t + 1, vn, vc, va, by omega, rfl, rfl, HN3.out.1, HN3.out.2.1, HN3.out.2.2⟩
                case measure => simp [intOf]; omega
        · obtain rfl : t = m := by omega
          have jt : ¬ (t : Int) < (t : Int) := by omega
          have HOw : Hid (OwnS wr w.heap.size (.slice oa L oc) (tickR xs TT t)) := by
            refine ⟨HO.out.1, ?_⟩
            rcases HO.out.2 with h | ⟨g', cp', cur, e, hb, rest⟩
            · exact .inl h
            · exact .inr ⟨g', cp', cur, e, by omega, rest⟩
          have HBw := Lib.hid (HLc.out wr HB.out).below
          by_cases h5 : 4096 < L
          · have j5 : (4096 : Int) < (L : Int) := by omega
            have HFf : Hid (FV = (-1, 4, [])) := by show _ = _; rw [HFe.out, if_pos (by rw [← HLn.out]; exact h5)]
            go_wp2_with fail
            go_ret3
            rw [HFf.out]
            exact ⟨_, rfl, OwnS.nil _ _, HBw.out⟩
          · have j5 : ¬ (4096 : Int) < (L : Int) := by omega
            have HFf : Hid (FV = (0, 0, tickR xs TT t)) := by show _ = _; rw [HFe.out, if_neg (by rw [← HLn.out]; exact h5)]
            go_wp2_with fail
            go_ret3
            rw [HFf.out]
            exact ⟨_, rfl, HOw.out, HBw.out⟩
end Go.Proofs.Ytkhlkbgolonkkaa
/- Lanes: needs of names of their own (the law's named). Own work. -/
namespace Go.Proofs.Ytkhlkbgolonkkaa
open Go.RowKit
set_option linter.unusedVariables false
def encR (x : R4) : List Value := [.int .i64 x.k, .string x.s, .int .u64 (x.b : Int), .int .u64 (x.p : Int)]
def encRs (xs : List R4) : List Value := xs.flatMap encR
theorem encRs_length (xs : List R4) : (encRs xs).length = xs.length * 4 := by
  induction xs with
  | nil => rfl
  | cons x xs ih => simp only [encRs, List.flatMap_cons, List.length_append, List.length_cons] at ih ⊢; rw [ih]; simp only [encR, List.length_cons, List.length_nil]; omega
theorem encRs_append (xs ys : List R4) : encRs (xs ++ ys) = encRs xs ++ encRs ys := by simp [encRs]
theorem encR_one (t : R4) : ∀ u ∈ encR t, u.oneCell' = true := by
  intro u hu
  simp only [encR, List.mem_cons, List.not_mem_nil, or_false] at hu
  rcases hu with rfl | rfl | rfl | rfl <;> rfl
theorem encRs_get (xs : List R4) (j i : Nat) (h : j < xs.length) (hi : i < 4) : (encRs xs)[j * 4 + i]? = (encR xs[j])[i]? := by
  induction xs generalizing j with
  | nil => simp at h
  | cons x xs ih =>
    cases j with
    | zero =>
      rw [show encRs (x :: xs) = encR x ++ encRs xs from rfl, List.getElem?_append_left (by simp [encR]; omega)]
      simp
    | succ j =>
      have := ih j (by simpa using h)
      rw [show encRs (x :: xs) = encR x ++ encRs xs from rfl, List.getElem?_append_right (by simp [encR]; omega)]
      rw [show (j + 1) * 4 + i - (encR x).length = j * 4 + i by simp [encR]; omega, this]
      rfl
theorem info_run : (Try.prog.info? 30).map (fun i => (i.zero, i.size, i.bytes)) = some (some (.agg #[.int .i64 0, .string ⟨#[]⟩, .int .u64 0, .int .u64 0]), 4, 40) := by kernel_rfl
/-- a row of runs that is owned -/
def OwnR (w : World) (base : Nat) (v : Value) (xs : List R4) : Prop := w.ownsRow base 30 4 v xs.length (encRs xs)
theorem OwnR.nil (w : World) (base : Nat) : OwnR w base (.slice none 0 0) [] := ⟨rfl, .inl ⟨rfl, rfl⟩⟩
theorem OwnR.lt {w : World} {base : Nat} {v : Value} {xs : List R4} (h : OwnR w base v xs) : ∀ k, v.ownBlock = some k → base ≤ k ∧ k < w.heap.size := World.ownsRow.lt h
theorem OwnR.keeps {S : Nat → Prop} {w w' : World} {base : Nat} {v : Value} {xs : List R4} (h : OwnR w base v xs) (hk : Keeps S w w') (hn : ∀ k, v.ownBlock = some k → ¬ S k) : OwnR w' base v xs := by
  refine ⟨h.1, ?_⟩
  rcases h.2 with hv | ⟨g, cap, cur, rfl, hb, hgg, rest⟩
  · exact .inl hv
  · refine .inr ⟨g, cap, cur, rfl, hb, ?_, rest⟩
    rw [hk.block g (Array.getElem?_eq_some_iff.1 hgg).1 (hn g rfl)]
    exact hgg
theorem OwnR.below {w w' : World} {base : Nat} {v : Value} {xs : List R4} (h : OwnR w base v xs) (hb : Below w.heap.size w w') : OwnR w' base v xs := h.keeps (Keeps.of_below (S := fun _ => False) hb) (fun _ _ e => e)
theorem OwnR.form {w : World} {base : Nat} {v : Value} {xs : List R4} (h : OwnR w base v xs) : ∃ a c, v = .slice a xs.length c := by
  rcases h.2 with ⟨rfl, h0⟩ | ⟨g, cap, cur, rfl, _⟩
  · exact ⟨none, 0, by rw [h0]⟩
  · exact ⟨_, _, rfl⟩
theorem OwnR.rn {w : World} {base : Nat} {v : Value} {xs : List R4} (h : OwnR w base v xs) (hx : ∀ x ∈ xs, R4.ok x) : Rn w v xs := by
  have h' := h
  rcases h.2 with ⟨rfl, h0⟩ | ⟨g, cap, cur, rfl, hb, hg, h1, h2, hs, ht⟩
  · exact ⟨none, 0, by rw [h0], by omega, Nat.zero_le _, hx, fun i hi => by omega⟩
  · have hc : ∀ j i, j < xs.length → i < 4 → ∀ hj : j < xs.length, w.cell? ⟨g, j * 4 + i, none⟩ = (encR xs[j])[i]? := fun j i _ hi hj => by
      rw [World.ownsRow.cellAt h' (j * 4 + i) (by omega)]
      exact encRs_get xs j i hj hi
    refine ⟨_, cap, rfl, h1, h2, hx, fun i hi => ⟨g, 0, rfl, ?_, ?_, ?_, ?_⟩⟩
    · rw [Nat.zero_add]; exact hc i 0 hi (by omega) hi
    · rw [Nat.zero_add]; exact hc i 1 hi (by omega) hi
    · rw [Nat.zero_add]; exact hc i 2 hi (by omega) hi
    · rw [Nat.zero_add]; exact hc i 3 hi (by omega) hi
theorem wpList_appendR {w : World} {base : Nat} {ops : Array Oper} {rest : List Oper} {o : Oper} {a : Act} {Q : Exit → Act → World → Prop} (hgd : o.guard = none) (s x : Operand)
    (ho : o.op = .call { callee := .builtin .append, args := #[s, x], argTypes := #[23, 23] }) {v : Value} {xs : List R4} {t : R4} {g cap : Nat} (hown : OwnR w base v xs) (hs : a.eval s = v) (hx : a.eval x = .slice (some ⟨g, 0, none⟩) 1 cap) (hg : w.heap[g]? = some (.cells (encR t).toArray 30 (0, 0))) (hb : (xs.length + 1) * 40 ≤ 140737488355328) (hbase : base ≤ w.heap.size)
    (h : ∀ v' w', Hid (OwnR w' base v' (xs ++ [t])) → Hid (w.grownBy w' v.ownBlock) → Hid (v'.ownBlock = v.ownBlock ∨ v'.ownBlock = some w.heap.size) → wpList Try.prog ops Q rest (a.put o.dst v') w') : wpList Try.prog ops Q (o :: rest) a w :=
  wpList_plain hgd fun K hK => by
    obtain ⟨i, hi, hz0, hz1, hz2⟩ := info_parts info_run
    obtain ⟨v', w', r1, r2, r3, _, r5⟩ := run_append_own_at (P := Try.prog) w base 23 o.type 30 i (.agg #[.int .i64 0, .string ⟨#[]⟩, .int .u64 0, .int .u64 0]) 4 40 Try.underlying23 hi hz0 hz1 hz2 rfl (by omega) v xs.length (encRs xs) hown ⟨g, 0, none⟩ 1 cap (encR t) rfl (fun j u hj => by
      rw [Addr.add_lit, Nat.zero_add, cell_of_row _ _ _ _ _ _ hg, List.getElem?_toArray]
      exact hj) (encR_one t) (by unfold maxLen; omega) (by omega) hbase
    have h2 : OwnR w' base v' (xs ++ [t]) := by
      unfold OwnR
      rw [List.length_append, encRs_append, show encRs [t] = encR t from List.append_nil _]
      exact r2
    unfold Oper.wp execOp
    simp only [ho, resolve, invoke, builtin, Sem.run_bind, Sem.run_pure, Result.andThen_ok, List.map_toArray, List.map_cons, List.map_nil, hs, hx, r1]
    exact hK _ _ (h v' w' h2 r3 r5)
theorem conv3 {w : World} {g : Nat} {a b c : Nat} (ha : a < 256) (hb : b < 256) (hc : c < 256) (h : w.heap[g]? = some (.cells #[.int .u8 (a : Int), .int .u8 (b : Int), .int .u8 (c : Int)] 5 (0, 0))) : (convert 65 9 (.slice (some ⟨g, 0, none⟩) 3 3)).run Try.prog w = .ok (.string (mkS [a, b, c])) w := by
  have h1 := run_convert_bytes_back (P := Try.prog) w 65 9 5 ⟨g, 0, none⟩ 3 ([a, b, c].map UInt8.ofNat) Try.underlying65 Try.underlying5 Try.underlying9 (fun j hj => by
    rw [Addr.add_lit, Nat.zero_add, cell_of_row _ _ _ _ _ _ h]
    have hj' : j < 3 := by simpa using hj
    match j, hj' with
    | 0, _ => simp [UInt8.toNat_ofNat_of_lt' ha]
    | 1, _ => simp [UInt8.toNat_ofNat_of_lt' hb]
    | 2, _ => simp [UInt8.toNat_ofNat_of_lt' hc])
  exact h1
/-- the same needs, under other names -/
def Ren (xs ys : List R4) (n : Nat) : Prop := ys.length = n ∧ ∀ j (h : j < ys.length) (h' : j < xs.length), ys[j].k = xs[j].k ∧ ys[j].b = xs[j].b ∧ ys[j].p = xs[j].p ∧ ys[j].s.toList.isEmpty = false
/-- where named stands -/
structure Nm (w wr : World) (u : Value) (xs ys : List R4) (lane : Array Value) (n : Nat) : Prop where
  below : Below w.heap.size w wr
  lb : wr.heap[w.heap.size]? = some (.cells lane 25 (0, 0))
  mb : wr.heap[w.heap.size + 2]? = some (.cells #[.int .i64 0, .int .u64 0, .bool true, u] 25 (0, 0))
  rb : wr.heap[w.heap.size + 1]? = some (.cells #[.int .i64 0, .int .u64 0, .bool false, .slice none 0 0] 25 (0, 0))
  own : OwnR wr (w.heap.size + 3) u ys
  ren : Ren xs ys n
theorem ret_lane {W : World} {g : Nat} {a b c d : Value} {T : Array Value} (h2 : T[2]?.getD undef = .pointer (some ⟨g, 0, none⟩)) (c0 : W.cell? ⟨g, 0, none⟩ = some a) (c1 : W.cell? ⟨g, 1, none⟩ = some b) (c2 : W.cell? ⟨g, 2, none⟩ = some c) (c3 : W.cell? ⟨g, 3, none⟩ = some d) : (results Try.f9 T).run Try.prog W = .ok (.agg #[a, b, c, d]) W := by
  simp [results, Try.results9, go_sem, h2, c0, c1, c2, c3]
theorem Nm.next {w wr W2 w2 : World} {u v2 : Value} {xs ys : List R4} {lane : Array Value} {i : Nat} {t : R4} (h : Nm w wr u xs ys lane i) (kW : Keeps (fun _ => False) wr W2) (ho : OwnR w2 (w.heap.size + 3) v2 (ys ++ [t])) (hg : W2.grownBy w2 u.ownBlock) (hl : v2.ownBlock = u.ownBlock ∨ v2.ownBlock = some W2.heap.size) (ht : ∀ h' : i < xs.length, t.k = xs[i].k ∧ t.b = xs[i].b ∧ t.p = xs[i].p ∧ t.s.toList.isEmpty = false) : Nm w (w2.setCell ⟨w.heap.size + 1 + 1, 3, none⟩ v2) v2 xs (ys ++ [t]) lane (i + 1) ∧ w2.cell? ⟨w.heap.size + 1 + 1, 3, none⟩ = some u ∧ w2.frozen? ⟨w.heap.size + 1 + 1, 3, none⟩ = false := by
  have hkm := (Array.getElem?_eq_some_iff.1 h.mb).1
  have hkl := (Array.getElem?_eq_some_iff.1 h.lb).1
  have hu : ∀ k, u.ownBlock = some k → w.heap.size + 3 ≤ k := fun k e => (h.own.lt k e).1
  have hm2 : w2.heap[w.heap.size + 2]? = some (.cells #[.int .i64 0, .int .u64 0, .bool true, u] 25 (0, 0)) := by
    rw [hg.block _ (Nat.lt_of_lt_of_le hkm kW.size) (fun e => by have := hu _ e.symm; omega), kW.block _ hkm id]
    exact h.mb
  have hl2 : w2.heap[w.heap.size]? = some (.cells lane 25 (0, 0)) := by
    rw [hg.block _ (Nat.lt_of_lt_of_le hkl kW.size) (fun e => by have := hu _ e.symm; omega), kW.block _ hkl id]
    exact h.lb
  have hr2 : w2.heap[w.heap.size + 1]? = some (.cells #[.int .i64 0, .int .u64 0, .bool false, .slice none 0 0] 25 (0, 0)) := by
    have hkr := (Array.getElem?_eq_some_iff.1 h.rb).1
    rw [hg.block _ (Nat.lt_of_lt_of_le hkr kW.size) (fun e => by have := hu _ e.symm; omega), kW.block _ hkr id]
    exact h.rb
  have hv : ∀ k, v2.ownBlock = some k → w.heap.size + 3 ≤ k := fun k e => (ho.lt k e).1
  refine ⟨⟨?_, ?_, ?_, ?_, ho.keeps (Keeps.setCell w2 (w.heap.size + 1 + 1) 3 v2) (fun k hk e => by have := hv k hk; omega), ?_, fun j hj hj' => ?_⟩, by rw [cell_of_row _ _ _ _ _ _ hm2]; rfl, by simp [World.frozen?, hm2]⟩
  · exact ((h.below.trans (kW.below h.below.size (fun _ _ e => e.elim))).grown hg (Nat.le_trans h.below.size kW.size) (fun k hk => by have := hu k hk; omega)).setCell (by show w.heap.size ≤ w.heap.size + 1 + 1; omega) _
  · rw [Below.heap_setCell _ _ _ _ (by show w.heap.size ≠ w.heap.size + 1 + 1; omega)]
    exact hl2
  · simp [World.setCell, Array.getElem?_modify, hm2]
  · rw [Below.heap_setCell _ _ _ _ (by show w.heap.size + 1 ≠ w.heap.size + 1 + 1; omega)]
    exact hr2
  · rw [List.length_append, List.length_singleton, h.ren.1]
  · have hi := h.ren.1
    by_cases hji : j < ys.length
    · rw [List.getElem_append_left hji]
      exact h.ren.2 j hji hj'
    · have hje : j = i := by simp at hj; omega
      subst hje
      rw [List.getElem_append_right (by omega)]
      simp only [hi, Nat.sub_self, List.getElem_singleton]
      exact ht hj'
set_option maxRecDepth 100000 in
set_option maxHeartbeats 4000000 in
theorem named_any {w : World} {v : Value} {xs : List R4} {q cp : Int} {nd : Bool} (h : Rn w v xs) (hl : xs.length ≤ 3518437208780) : Calls Try.prog 9 #[.agg #[.int .i64 q, .int .u64 cp, .bool nd, v]] w fun e w' => ∃ u, e = .returned (.agg #[.int .i64 0, .int .u64 0, .bool true, u]) ∧ ∃ ys, Rn w' u ys ∧ Ren xs ys xs.length ∧ (∀ k, u.ownBlock = some k → w.heap.size ≤ k) ∧ Below w.heap.size w w' := by
  have HR := Lib.hid h
  obtain ⟨ao, cap, rfl, h1, h2, h3, h4⟩ := h
  have HX : Hid (∀ x ∈ xs, R4.ok x) := h3
  clear h3 h4
  unfold maxLen at h2
  obtain ⟨n, hn⟩ : ∃ n, xs.length = n := ⟨_, rfl⟩
  have HN := Lib.hid hn
  rw [hn] at h1 hl ⊢
  have HM0 : Hid (Nm w (((w.alloc (.cells #[.int .i64 q, .int .u64 cp, .bool nd, .slice ao n cap] 25)).alloc (.cells #[.int .i64 0, .int .u64 0, .bool false, .slice none 0 0] 25)).alloc (.cells #[.int .i64 0, .int .u64 0, .bool true, .slice none 0 0] 25)) (.slice none 0 0) xs [] #[.int .i64 q, .int .u64 cp, .bool nd, .slice ao n cap] 0) := by
    refine ⟨(((Below.refl _ _).alloc (Nat.le_refl _) _).alloc (by simp) _).alloc (by simp; omega) _, ?_, ?_, ?_, OwnR.nil _ _, rfl, fun j h => by simp at h⟩
    · rw [Below.heap_alloc _ _ _ (by simp; omega), Below.heap_alloc _ _ _ (by simp)]
      exact Array.getElem?_push_size (xs := w.heap)
    · have es : ((w.alloc (.cells #[.int .i64 q, .int .u64 cp, .bool nd, .slice ao n cap] 25)).alloc (.cells #[.int .i64 0, .int .u64 0, .bool false, .slice none 0 0] 25)).heap.size = w.heap.size + 2 := by simp
      rw [← es]
      exact Array.getElem?_push_size (xs := ((w.alloc (.cells #[.int .i64 q, .int .u64 cp, .bool nd, .slice ao n cap] 25)).alloc (.cells #[.int .i64 0, .int .u64 0, .bool false, .slice none 0 0] 25)).heap)
    · have es : (w.alloc (.cells #[.int .i64 q, .int .u64 cp, .bool nd, .slice ao n cap] 25)).heap.size = w.heap.size + 1 := by simp
      rw [Below.heap_alloc _ _ _ (by simp), ← es]
      exact Array.getElem?_push_size (xs := (w.alloc (.cells #[.int .i64 q, .int .u64 cp, .bool nd, .slice ao n cap] 25)).heap)
  clear hn
  go_enter Try.func9, Try.ntmps9
  go_wp2_with fail
  go_loopw [4] (fun iv wr => ∃ i : Nat, i ≤ n ∧ iv = .int .i64 (i : Int) ∧ ∃ u ys, Hid (Nm w wr u xs ys #[.int .i64 q, .int .u64 cp, .bool nd, .slice ao n cap] i)) (fun iv _ => n - (intOf iv).toNat)
  case atStart => exact ⟨0, by omega, rfl, _, _, HM0⟩
  case round =>
    clear HM0
    obtain ⟨i, hi, rfl, u, ys, HM⟩ := hrel
    have y3 : wr.cell? ⟨w.heap.size, 3, none⟩ = some (.slice ao n cap) := by rw [cell_of_row _ _ _ _ _ _ HM.out.lb]; rfl
    have z3 : wr.cell? ⟨w.heap.size + 1 + 1, 3, none⟩ = some u := by rw [cell_of_row _ _ _ _ _ _ HM.out.mb]; rfl
    by_cases hin : i < n
    · have hix : i < xs.length := by rw [HN.out]; exact hin
      have ji : (i : Int) < (n : Int) := by omega
      have jc : (n : Int) ≤ (cap : Int) := by omega
      have hw1 : IntKind.i64.wrap ((i : Int) + 1) = ((i + 1 : Nat) : Int) := by rw [IntKind.wrap_i64]; omega
      obtain ⟨_, _, e', _, _, _, hc⟩ := HR.out.below HM.out.below
      simp only [Value.slice.injEq] at e'
      obtain ⟨rfl, _, rfl⟩ := e'
      obtain ⟨b, of, rfl, c0, c1, c2, c3⟩ := hc i hix
      clear hc
      have HOk : Hid (R4.ok xs[i]) := HX.out _ (List.getElem_mem _)
      obtain ⟨x, hxx⟩ : ∃ x, xs[i] = x := ⟨_, rfl⟩
      have HXX := Lib.hid hxx
      rw [hxx] at c0 c1 c2 c3 HOk
      clear hxx
      obtain ⟨a, ha⟩ : ∃ a, i % 26 = a := ⟨_, rfl⟩
      have t1 : (i : Int).tmod 26 = (a : Int) := by rw [← ha]; rfl
      have t2 : (i : Int).tdiv 26 = ((i / 26 : Nat) : Int) := rfl
      have t4 : (i : Int).tdiv 676 = ((i / 676 : Nat) : Int) := rfl
      have e2 : (97 : Int) + (i : Int) / 26 % 26 = ((97 + i / 26 % 26 : Nat) : Int) := by omega
      have e3 : (97 : Int) + (i : Int) / 676 % 26 = ((97 + i / 676 % 26 : Nat) : Int) := by omega
      have hcv : (convert 65 9 (.slice (some ⟨wr.heap.size + 1, 0, none⟩) 3 3)).run Try.prog ((wr.alloc (.cells #[.int .i64 x.k, .string x.s, .int .u64 (x.b : Int), .int .u64 (x.p : Int)] 30)).alloc (.cells #[.int .u8 (97 + (a : Int)), .int .u8 (97 + (i : Int) / 26 % 26), .int .u8 (97 + (i : Int) / 676 % 26)] 5)) = .ok (.string (mkS [97 + a, 97 + i / 26 % 26, 97 + i / 676 % 26])) ((wr.alloc (.cells #[.int .i64 x.k, .string x.s, .int .u64 (x.b : Int), .int .u64 (x.p : Int)] 30)).alloc (.cells #[.int .u8 (97 + (a : Int)), .int .u8 (97 + (i : Int) / 26 % 26), .int .u8 (97 + (i : Int) / 676 % 26)] 5)) := by
        refine conv3 (by omega) (by omega) (by omega) ?_
        rw [← e2, ← e3, show ((97 + a : Nat) : Int) = 97 + (a : Int) by omega]
        have es : (wr.alloc (.cells #[.int .i64 x.k, .string x.s, .int .u64 (x.b : Int), .int .u64 (x.p : Int)] 30)).heap.size = wr.heap.size + 1 := by simp
        rw [← es]
        exact Array.getElem?_push_size (xs := (wr.alloc (.cells #[.int .i64 x.k, .string x.s, .int .u64 (x.b : Int), .int .u64 (x.p : Int)] 30)).heap)
      have hal : a < 26 := by omega
      clear ha e2 e3
      obtain ⟨sS, hsS⟩ : ∃ sS, mkS [97 + a, 97 + i / 26 % 26, 97 + i / 676 % 26] = sS := ⟨_, rfl⟩
      rw [hsS] at hcv
      have hsz : sS.size = 3 := by rw [← hsS, mkS_size]; rfl
      clear hsS
      obtain ⟨ua, uc, hu⟩ : ∃ ua uc, u = .slice ua ys.length uc := by
        rcases HM.out.own.2 with ⟨hv, h0⟩ | ⟨g, cap', cur, hv, _⟩
        · exact ⟨none, 0, by rw [hv, h0]⟩
        · exact ⟨_, _, hv⟩
      have hyl : ys.length = i := HM.out.ren.1
      rw [hyl] at hu
      subst hu
      have k1 : w.heap.size + 1 + 1 < wr.heap.size := (Array.getElem?_eq_some_iff.1 HM.out.mb).1
      have k2 : w.heap.size + 1 + 1 ≠ wr.heap.size := by omega
      have k3 : w.heap.size + 1 + 1 ≠ wr.heap.size + 1 := by omega
      have k4 : w.heap.size + 1 + 1 ≠ wr.heap.size + 1 + 1 := by omega
      have HKW : Hid (Keeps (fun _ => False) wr (((wr.alloc (.cells #[.int .i64 x.k, .string (⟨#[110]⟩ ++ sS), .int .u64 (x.b : Int), .int .u64 (x.p : Int)] 30)).alloc (.cells #[.int .u8 (97 + (a : Int)), .int .u8 (97 + (i : Int) / 26 % 26), .int .u8 (97 + (i : Int) / 676 % 26)] 5)).alloc (.cells #[.int .i64 x.k, .string (⟨#[110]⟩ ++ sS), .int .u64 (x.b : Int), .int .u64 (x.p : Int)] 30))) := ((Keeps.alloc wr _).trans (Keeps.alloc _ _) (fun _ _ e => e)).trans (Keeps.alloc _ _) (fun _ _ e => e)
      have HOA : Hid (OwnR (((wr.alloc (.cells #[.int .i64 x.k, .string (⟨#[110]⟩ ++ sS), .int .u64 (x.b : Int), .int .u64 (x.p : Int)] 30)).alloc (.cells #[.int .u8 (97 + (a : Int)), .int .u8 (97 + (i : Int) / 26 % 26), .int .u8 (97 + (i : Int) / 676 % 26)] 5)).alloc (.cells #[.int .i64 x.k, .string (⟨#[110]⟩ ++ sS), .int .u64 (x.b : Int), .int .u64 (x.p : Int)] 30)) (w.heap.size + 3) (.slice ua i uc) ys) := HM.out.own.keeps HKW.out (fun _ _ e => e)
      have HB4 : Hid ((((wr.alloc (.cells #[.int .i64 x.k, .string (⟨#[110]⟩ ++ sS), .int .u64 (x.b : Int), .int .u64 (x.p : Int)] 30)).alloc (.cells #[.int .u8 (97 + (a : Int)), .int .u8 (97 + (i : Int) / 26 % 26), .int .u8 (97 + (i : Int) / 676 % 26)] 5)).alloc (.cells #[.int .i64 x.k, .string (⟨#[110]⟩ ++ sS), .int .u64 (x.b : Int), .int .u64 (x.p : Int)] 30)).heap[wr.heap.size + 1 + 1]? = some (.cells (encR ⟨x.k, ⟨#[110]⟩ ++ sS, x.b, x.p⟩).toArray 30 (0, 0))) := by
        have es : ((wr.alloc (.cells #[.int .i64 x.k, .string (⟨#[110]⟩ ++ sS), .int .u64 (x.b : Int), .int .u64 (x.p : Int)] 30)).alloc (.cells #[.int .u8 (97 + (a : Int)), .int .u8 (97 + (i : Int) / 26 % 26), .int .u8 (97 + (i : Int) / 676 % 26)] 5)).heap.size = wr.heap.size + 1 + 1 := by simp
        show _ = _
        rw [← es]
        exact Array.getElem?_push_size (xs := ((wr.alloc (.cells #[.int .i64 x.k, .string (⟨#[110]⟩ ++ sS), .int .u64 (x.b : Int), .int .u64 (x.p : Int)] 30)).alloc (.cells #[.int .u8 (97 + (a : Int)), .int .u8 (97 + (i : Int) / 26 % 26), .int .u8 (97 + (i : Int) / 676 % 26)] 5)).heap)
      have HNx : Hid (∀ v2 w2, OwnR w2 (w.heap.size + 3) v2 (ys ++ [⟨x.k, ⟨#[110]⟩ ++ sS, x.b, x.p⟩]) → (((wr.alloc (.cells #[.int .i64 x.k, .string (⟨#[110]⟩ ++ sS), .int .u64 (x.b : Int), .int .u64 (x.p : Int)] 30)).alloc (.cells #[.int .u8 (97 + (a : Int)), .int .u8 (97 + (i : Int) / 26 % 26), .int .u8 (97 + (i : Int) / 676 % 26)] 5)).alloc (.cells #[.int .i64 x.k, .string (⟨#[110]⟩ ++ sS), .int .u64 (x.b : Int), .int .u64 (x.p : Int)] 30)).grownBy w2 (Value.slice ua i uc).ownBlock → (v2.ownBlock = (Value.slice ua i uc).ownBlock ∨ v2.ownBlock = some (((wr.alloc (.cells #[.int .i64 x.k, .string (⟨#[110]⟩ ++ sS), .int .u64 (x.b : Int), .int .u64 (x.p : Int)] 30)).alloc (.cells #[.int .u8 (97 + (a : Int)), .int .u8 (97 + (i : Int) / 26 % 26), .int .u8 (97 + (i : Int) / 676 % 26)] 5)).alloc (.cells #[.int .i64 x.k, .string (⟨#[110]⟩ ++ sS), .int .u64 (x.b : Int), .int .u64 (x.p : Int)] 30)).heap.size) → Nm w (w2.setCell ⟨w.heap.size + 1 + 1, 3, none⟩ v2) v2 xs (ys ++ [⟨x.k, ⟨#[110]⟩ ++ sS, x.b, x.p⟩]) #[.int .i64 q, .int .u64 cp, .bool nd, .slice (some ⟨b, of, none⟩) n cap] (i + 1) ∧ w2.cell? ⟨w.heap.size + 1 + 1, 3, none⟩ = some (.slice ua i uc) ∧ w2.frozen? ⟨w.heap.size + 1 + 1, 3, none⟩ = false) := fun v2 w2 h1 h2 h3 =>
        HM.out.next HKW.out h1 h2 h3 (fun h' => ⟨by rw [HXX.out], by rw [HXX.out], by rw [HXX.out], by rw [ByteArray.toList_eq]; simp⟩)
      have HLy : Hid ((ys.length + 1) * 40 ≤ 140737488355328) := by show _ ≤ _; rw [hyl]; omega
      have HBs : Hid (w.heap.size + 3 ≤ wr.heap.size) := by show _ ≤ _; omega
      have z4 : ((wr.alloc (.cells #[.int .i64 x.k, .string (⟨#[110]⟩ ++ sS), .int .u64 (x.b : Int), .int .u64 (x.p : Int)] 30)).alloc (.cells #[.int .u8 (97 + (a : Int)), .int .u8 (97 + (i : Int) / 26 % 26), .int .u8 (97 + (i : Int) / 676 % 26)] 5)).cell? ⟨w.heap.size + 1 + 1, 3, none⟩ = some (.slice ua i uc) := by
        have hk : Keeps (fun _ => False) wr ((wr.alloc (.cells #[.int .i64 x.k, .string (⟨#[110]⟩ ++ sS), .int .u64 (x.b : Int), .int .u64 (x.p : Int)] 30)).alloc (.cells #[.int .u8 (97 + (a : Int)), .int .u8 (97 + (i : Int) / 26 % 26), .int .u8 (97 + (i : Int) / 676 % 26)] 5)) := (Keeps.alloc wr _).trans (Keeps.alloc _ _) (fun _ _ e => e)
        rw [World.cell?_of_block (w := wr) (a := ⟨w.heap.size + 1 + 1, 3, none⟩) (hk.block _ k1 id)]
        exact z3
      clear hyl
      go_wp2_with (at_builtin; refine wpList_appendR rfl (.tmp 38) (.tmp 40) rfl HOA.out rfl rfl HB4.out HLy.out (Nat.le_trans HBs.out (by simp; omega)) ?_; intro v2 w2 HO2 HG2 HL2; obtain ⟨va2, vc2, hv2⟩ := HO2.out.form; subst hv2; obtain ⟨hn2, hc2, hf2⟩ := HNx.out _ _ HO2.out HG2.out HL2.out; have HN2 := Lib.hid hn2; clear hn2 HO2 HG2 HL2 HNx HB4 HOA)
      have h8 := HN2.out
      rw [List.length_append, List.length_singleton] at h8
      have HN3 := Lib.hid h8
      clear h8 HN2
      go_roundw
      case rel => exact ⟨i + 1, by omega, rfl, _, _, HN3⟩
      case measure => simp [intOf]; omega
    · obtain rfl : i = n := by omega
      have ji : ¬ (i : Int) < (i : Int) := by omega
      have HOk : Hid (∀ y ∈ ys, R4.ok y) := by
        intro y hy
        obtain ⟨j, hj, e⟩ := List.mem_iff_getElem.1 hy
        have hr := HM.out.ren
        have hjx : j < xs.length := by rw [HN.out, ← hr.1]; exact hj
        have h5 := hr.2 j hj hjx
        have h6 := HX.out _ (List.getElem_mem hjx)
        rw [← e]
        unfold R4.ok at h6 ⊢
        rw [h5.2.1, h5.2.2.1]
        exact h6
      have q0 : wr.cell? ⟨w.heap.size + 1 + 1, 0, none⟩ = some (.int .i64 0) := by rw [cell_of_row _ _ _ _ _ _ HM.out.mb]; rfl
      have q1 : wr.cell? ⟨w.heap.size + 1 + 1, 1, none⟩ = some (.int .u64 0) := by rw [cell_of_row _ _ _ _ _ _ HM.out.mb]; rfl
      have q2 : wr.cell? ⟨w.heap.size + 1 + 1, 2, none⟩ = some (.bool true) := by rw [cell_of_row _ _ _ _ _ _ HM.out.mb]; rfl
      have p0 : wr.cell? ⟨w.heap.size + 1, 0, none⟩ = some (.int .i64 0) := by rw [cell_of_row _ _ _ _ _ _ HM.out.rb]; rfl
      have p1 : wr.cell? ⟨w.heap.size + 1, 1, none⟩ = some (.int .u64 0) := by rw [cell_of_row _ _ _ _ _ _ HM.out.rb]; rfl
      have p2 : wr.cell? ⟨w.heap.size + 1, 2, none⟩ = some (.bool false) := by rw [cell_of_row _ _ _ _ _ _ HM.out.rb]; rfl
      have p3 : wr.cell? ⟨w.heap.size + 1, 3, none⟩ = some (.slice none 0 0) := by rw [cell_of_row _ _ _ _ _ _ HM.out.rb]; rfl
      have f0 : wr.frozen? ⟨w.heap.size + 1, 0, none⟩ = false := by simp [World.frozen?, HM.out.rb]
      have f1 : wr.frozen? ⟨w.heap.size + 1, 1, none⟩ = false := by simp [World.frozen?, HM.out.rb]
      have f2 : wr.frozen? ⟨w.heap.size + 1, 2, none⟩ = false := by simp [World.frozen?, HM.out.rb]
      have f3 : wr.frozen? ⟨w.heap.size + 1, 3, none⟩ = false := by simp [World.frozen?, HM.out.rb]
      obtain ⟨ua, uc, hu⟩ := HM.out.own.form
      subst hu
      go_wp2_with fail
      generalize hW : ((((wr.setCell ⟨w.heap.size + 1, 0, none⟩ (.int .i64 0)).setCell ⟨w.heap.size + 1, 1, none⟩ (.int .u64 0)).setCell ⟨w.heap.size + 1, 2, none⟩ (.bool true)).setCell ⟨w.heap.size + 1, 3, none⟩ (.slice ua ys.length uc)) = W9
      have hb9 : W9.heap[w.heap.size + 1]? = some (.cells #[.int .i64 0, .int .u64 0, .bool true, .slice ua ys.length uc] 25 (0, 0)) := by
        rw [← hW]
        simp [World.setCell, Array.getElem?_modify, HM.out.rb]
      have hk9 : Keeps (fun k => k = w.heap.size + 1) wr W9 := by
        rw [← hW]
        exact (((Keeps.setCell _ _ _ _).trans (Keeps.setCell _ _ _ _) (fun _ _ e => e)).trans (Keeps.setCell _ _ _ _) (fun _ _ e => e)).trans (Keeps.setCell _ _ _ _) (fun _ _ e => e)
      have ho9 : OwnR W9 (w.heap.size + 3) (.slice ua ys.length uc) ys := HM.out.own.keeps hk9 (fun k hk e => by have := (HM.out.own.lt k hk).1; omega)
      have hbl9 : Below w.heap.size w W9 := HM.out.below.trans (hk9.below HM.out.below.size (fun k _ e => by omega))
      refine bodyPost_ret (v := .agg #[.int .i64 0, .int .u64 0, .bool true, .slice ua ys.length uc]) (ret_lane (g := w.heap.size + 1) rfl (by rw [cell_of_row _ _ _ _ _ _ hb9]; rfl) (by rw [cell_of_row _ _ _ _ _ _ hb9]; rfl) (by rw [cell_of_row _ _ _ _ _ _ hb9]; rfl) (by rw [cell_of_row _ _ _ _ _ _ hb9]; rfl)) rfl ?_
      exact ⟨_, rfl, ys, ho9.rn HOk.out, HM.out.ren, (fun k hk => by have := (ho9.lt k hk).1; omega), hbl9⟩
end Go.Proofs.Ytkhlkbgolonkkaa
/- Lanes: Roomy, Same, Intact of runs (written by parts/gen_ln4.py off those of slots). Own work. -/
namespace Go.Proofs.Ytkhlkbgolonkkaa
open Go.RowKit
theorem encRs_one (xs : List R4) : ∀ u ∈ encRs xs, u.oneCell' = true := by
  intro u hu
  obtain ⟨x, _, hx⟩ := List.mem_flatMap.1 hu
  exact encR_one x u hx
def mk4 : R4 := ⟨0, ⟨#[109, 97, 114, 107]⟩, 0, 0⟩
def z4 : R4 := ⟨0, ⟨#[]⟩, 0, 0⟩
/-- a row of slots, known whole -/
def Row4 (w : World) (g : Nat) (L : List R4) : Prop := w.heap[g]? = some (.cells (encRs L).toArray 30 (0, 0))
theorem Row4.lt {w : World} {g : Nat} {L : List R4} (h : Row4 w g L) : g < w.heap.size := (Array.getElem?_eq_some_iff.1 h).1
theorem Row4.cell {w : World} {g : Nat} {L : List R4} (h : Row4 w g L) (j i : Nat) (hj : j < L.length) (hi : i < 4) : w.cell? ⟨g, j * 4 + i, none⟩ = (encR L[j])[i]? := by
  rw [cell_of_row _ _ _ _ _ _ h]
  rw [show ((encRs L).toArray[j * 4 + i]?) = (encRs L)[j * 4 + i]? by simp]
  exact encRs_get L j i hj hi
theorem Row4.below {w w' : World} {g : Nat} {L : List R4} (h : Row4 w g L) (hb : Below w.heap.size w w') : Row4 w' g L := (hb.block g h.lt).trans h
theorem Row4.rd {w : World} {g n c : Nat} {L : List R4} (h : Row4 w g L) (hn : n ≤ L.length) (hc : n ≤ c) (hm : c ≤ maxLen) (hx : ∀ x ∈ L.take n, R4.ok x) : Rn w (.slice (some ⟨g, 0, none⟩) n c) (L.take n) := by
  have hl : (L.take n).length = n := by rw [List.length_take]; omega
  refine ⟨some ⟨g, 0, none⟩, c, by rw [hl], by rw [hl]; exact hc, hm, hx, fun i hi => ⟨g, 0, rfl, ?_, ?_, ?_, ?_⟩⟩
  · have := h.cell i 0 (by omega) (by omega)
    rw [Nat.zero_add, List.getElem_take]
    exact this
  · have := h.cell i 1 (by omega) (by omega)
    rw [Nat.zero_add, List.getElem_take]
    exact this
  · have := h.cell i 2 (by omega) (by omega)
    rw [Nat.zero_add, List.getElem_take]
    exact this
  · have := h.cell i 3 (by omega) (by omega)
    rw [Nat.zero_add, List.getElem_take]
    exact this

/-- the copy of slots into a row that is known -/
theorem wpList_copy4 {w : World} {ops : Array Oper} {rest : List Oper} {o : Oper} {a : Act} {Q : Exit → Act → World → Prop} (hgd : o.guard = none) (d s : Operand)
    (ho : o.op = .call { callee := .builtin .copy, args := #[d, s], argTypes := #[23, 23] }) {g dCap m : Nat} {v : Value} {xs : List R4} (hd : a.eval d = .slice (some ⟨g, 0, none⟩) (xs.length + m) dCap) (hs : a.eval s = v) (hr : Row4 w g (List.replicate (xs.length + m) z4)) (hv : Rn w v xs)
    (h : ∀ w', Hid (Row4 w' g (xs ++ List.replicate m z4)) → Hid (Keeps (fun k => k = g) w w') → wpList Try.prog ops Q rest (a.put o.dst (goInt xs.length)) w') : wpList Try.prog ops Q (o :: rest) a w := by
  obtain ⟨i, hi, hz0, hz1, hz2⟩ := info_parts info_run
  have hsz : (Try.prog.info? 30).map (·.size) = some 4 := by rw [hi, Option.map_some, hz1]
  obtain ⟨ao, cap, rfl, h1, h2, h3, h4⟩ := hv
  refine wpList_plain hgd fun K hK => ?_
  by_cases hp : 0 < xs.length
  · obtain ⟨b, of, rfl, _⟩ := h4 0 hp
    have hrun := run_copyS (P := Try.prog) w 23 23 o.type 30 4 g 0 (xs.length + m) dCap ⟨b, of, none⟩ xs.length cap (encRs (List.replicate (xs.length + m) z4)).toArray 30 (encRs xs) Try.underlying23 hsz hr (by rw [encRs_length, show Nat.min xs.length (xs.length + m) = xs.length from Nat.min_eq_left (by omega)]) (fun j u hj => by
      have hjl : j < xs.length * 4 := by have := (List.getElem?_eq_some_iff.1 hj).1; rw [encRs_length] at this; exact this
      obtain ⟨b', o', e, c0, c1, c2, c3⟩ := h4 (j / 4) (by omega)
      cases e
      rw [Addr.add_lit]
      have hj2 : j = j / 4 * 4 + j % 4 := by omega
      rw [hj2, encRs_get xs (j / 4) (j % 4) (by omega) (by omega)] at hj
      rcases (by omega : j % 4 = 0 ∨ j % 4 = 1 ∨ j % 4 = 2 ∨ j % 4 = 3) with e | e | e | e
      · rw [e] at hj
        rw [hj2, e, Nat.add_zero, c0]
        exact hj
      · rw [e] at hj
        rw [hj2, e, ← Nat.add_assoc, c1]
        exact hj
      · rw [e] at hj
        rw [hj2, e, ← Nat.add_assoc, c2]
        exact hj
      · rw [e] at hj
        rw [hj2, e, ← Nat.add_assoc, c3]
        exact hj) (by simp [encRs_length]; omega) (encRs_one xs)
    rw [show Nat.min xs.length (xs.length + m) = xs.length from Nat.min_eq_left (by omega)] at hrun
    unfold Oper.wp
    simp only [execOp, ho, resolve, invoke, builtin, Sem.run_bind, Sem.run_pure, List.map_toArray, List.map_cons, List.map_nil, hd, hs, hrun, Result.andThen_ok]
    refine hK _ _ (h _ ?_ ⟨rfl, rfl, rfl, by simp [World.setRow], fun k _ hk => setRow_other w g k _ hk⟩)
    have e : (encRs (List.replicate (xs.length + m) z4)).toArray.toList.take 0 ++ encRs xs ++ (encRs (List.replicate (xs.length + m) z4)).toArray.toList.drop (0 + (encRs xs).length) = encRs (xs ++ List.replicate m z4) := by
      rw [← List.replicate_append_replicate, encRs_append, encRs_append]
      simp only [List.take_zero, List.nil_append, Nat.zero_add]
      rw [List.drop_append_of_le_length (by rw [encRs_length, encRs_length, List.length_replicate]; exact Nat.le_refl _), List.drop_of_length_le (by rw [encRs_length, encRs_length, List.length_replicate]; exact Nat.le_refl _), List.nil_append]
    show _ = _
    rw [e]
    exact setRow_heap w g _ _ _ _ hr
  · obtain rfl : xs = [] := List.eq_nil_of_length_eq_zero (by omega)
    have hr' : Row4 w g (List.replicate m z4) := by
      have := hr
      rw [List.length_nil, Nat.zero_add] at this
      exact this
    have hrun : (Builtin.copy_ #[23, 23] o.type #[.slice (some ⟨g, 0, none⟩) (([] : List R4).length + m) dCap, .slice ao ([] : List R4).length cap]).run Try.prog w = .ok (goInt 0) w := by
      cases ao with
      | none => exact run_copyN w _ _ _ 30 _ _ _ _ Try.underlying23 (by rw [hsz]; rfl)
      | some ad =>
        have := run_copyS (P := Try.prog) w 23 23 o.type 30 4 g 0 (([] : List R4).length + m) dCap ad 0 cap (encRs (List.replicate m z4)).toArray 30 [] Try.underlying23 hsz hr' (by simp) (fun j u hj => by simp at hj) (by simp) (fun _ h => by cases h)
        rw [show Nat.min 0 (([] : List R4).length + m) = 0 from Nat.zero_min _] at this
        have e : ((encRs (List.replicate m z4)).toArray.toList.take 0 ++ [] ++ (encRs (List.replicate m z4)).toArray.toList.drop (0 + ([] : List Value).length)).toArray = (encRs (List.replicate m z4)).toArray := by simp
        rw [e, setRow_self w g _ _ _ hr'] at this
        exact this
    unfold Oper.wp
    simp only [execOp, ho, resolve, invoke, builtin, Sem.run_bind, Sem.run_pure, List.map_toArray, List.map_cons, List.map_nil, hd, hs, hrun, Result.andThen_ok]
    exact hK _ _ (h w (by rw [List.nil_append]; exact hr') (Keeps.refl _ _))
theorem Row4.set {w : World} {g : Nat} {L : List R4} (h : Row4 w g L) (j : Nat) (hj : j < L.length) (x : R4) : Row4 ((((w.setCell ⟨g, j * 4, none⟩ (.int .i64 x.k)).setCell ⟨g, j * 4 + 1, none⟩ (.string x.s)).setCell ⟨g, j * 4 + 2, none⟩ (.int .u64 (x.b : Int))).setCell ⟨g, j * 4 + 3, none⟩ (.int .u64 (x.p : Int))) g (L.set j x) := by
  have h0 : w.heap[g]? = some (.cells (encRs L).toArray 30 (0, 0)) := h
  have e : encRs (L.set j x) = ((((encRs L).set (j * 4) (.int .i64 x.k)).set (j * 4 + 1) (.string x.s)).set (j * 4 + 2) (.int .u64 (x.b : Int))).set (j * 4 + 3) (.int .u64 (x.p : Int)) := by
    clear h h0
    induction L generalizing j with
    | nil => simp at hj
    | cons y ys ih =>
      cases j with
      | zero => rfl
      | succ j =>
        have := ih j (by simpa using hj)
        rw [List.set_cons_succ, show encRs (y :: ys.set j x) = encR y ++ encRs (ys.set j x) from rfl, this, show encRs (y :: ys) = encR y ++ encRs ys from rfl]
        rw [List.set_append_right _ _ (by simp [encR]; omega), show (j + 1) * 4 - (encR y).length = j * 4 by simp [encR]; omega, List.set_append_right _ _ (by simp [encR]; omega), show (j + 1) * 4 + 1 - (encR y).length = j * 4 + 1 by simp [encR]; omega, List.set_append_right _ _ (by simp [encR]; omega), show (j + 1) * 4 + 2 - (encR y).length = j * 4 + 2 by simp [encR]; omega, List.set_append_right _ _ (by simp [encR]; omega), show (j + 1) * 4 + 3 - (encR y).length = j * 4 + 3 by simp [encR]; omega]
  unfold Row4
  rw [e]
  simp [World.setCell, Array.getElem?_modify, h0]
/-- a row with 80 more places, of which k bear the mark -/
def fill4 (p : List R4) (k : Nat) : List R4 := p ++ (List.replicate k mk4 ++ List.replicate (80 - k) z4)
def room4 (p : List R4) : List R4 := p ++ List.replicate 80 mk4
theorem fill4_len (p : List R4) (k : Nat) (hk : k ≤ 80) : (fill4 p k).length = p.length + 80 := by simp [fill4]; omega
theorem room4_len (p : List R4) : (room4 p).length = p.length + 80 := by rw [room4, List.length_append, List.length_replicate]
theorem fill4_set (p : List R4) (k : Nat) (hk : k < 80) : (fill4 p k).set (p.length + k) mk4 = fill4 p (k + 1) := by
  unfold fill4
  rw [List.set_append_right _ _ (by omega), Nat.add_sub_cancel_left, List.set_append_right _ _ (by simp), List.length_replicate, Nat.sub_self, show 80 - k = (80 - (k + 1)) + 1 by omega, List.replicate_succ, List.set_cons_zero, List.replicate_succ', List.append_assoc]
  rfl
theorem fill4_end (p : List R4) : fill4 p 80 = room4 p := by simp only [fill4, room4, Nat.sub_self, List.replicate_zero, List.append_nil]
theorem made4 {w : World} {base g n : Nat} (h : w.ownsRow base 30 4 (.slice (some ⟨g, 0, none⟩) n n) n (madeCells #[Value.int .i64 0, .string ⟨#[]⟩, .int .u64 0, .int .u64 0] (n * 4)).toList) : Row4 w g (List.replicate n z4) := by
  rcases h.2 with ⟨hc, _⟩ | ⟨g', cap, cur, hv, _, hg, _, _, hs, ht⟩
  · cases hc
  · cases hv
    unfold Row4
    rw [hg]
    have e : cur.toList = encRs (List.replicate n z4) := by
      rw [List.take_of_length_le (by simp [hs])] at ht
      rw [ht]
      apply List.ext_getElem?
      intro j
      by_cases hj : j < n * 4
      · rw [show j = j / 4 * 4 + j % 4 by omega, encRs_get _ (j / 4) (j % 4) (by rw [List.length_replicate]; omega) (by omega), List.getElem_replicate]
        rw [Array.getElem?_toList]
        have hj' : j / 4 * 4 + j % 4 < (madeCells #[Value.int .i64 0, .string ⟨#[]⟩, .int .u64 0, .int .u64 0] (n * 4)).size := by rw [size_madeCells]; omega
        rw [Array.getElem?_eq_getElem hj']
        have hg : (madeCells #[Value.int .i64 0, .string ⟨#[]⟩, .int .u64 0, .int .u64 0] (n * 4))[j / 4 * 4 + j % 4] = (#[Value.int .i64 0, .string ⟨#[]⟩, .int .u64 0, .int .u64 0] : Array Value)[(j / 4 * 4 + j % 4) % 4]! := by
          simp only [madeCells, Array.getElem_map, Array.getElem_range]
          rfl
        rw [hg, show (j / 4 * 4 + j % 4) % 4 = j % 4 by omega]
        rcases (by omega : j % 4 = 0 ∨ j % 4 = 1 ∨ j % 4 = 2 ∨ j % 4 = 3) with e | e | e | e <;> rw [e] <;> rfl
      · rw [List.getElem?_eq_none (by rw [Array.length_toList, size_madeCells]; omega), List.getElem?_eq_none (by rw [encRs_length, List.length_replicate]; omega)]
    rw [← e]
set_option maxRecDepth 100000 in
set_option maxHeartbeats 4000000 in
theorem roomyR_any {v : Value} {p : List R4} {w : World} (hv : Rn w v p) (hp : p.length ≤ 3518437208780) :
    Calls Try.prog 21 #[v, .agg #[.int .i64 0, .string ⟨#[109, 97, 114, 107]⟩, .int .u64 0, .int .u64 0]] w fun e w' => ∃ g, w.heap.size ≤ g ∧ e = .returned (.slice (some ⟨g, 0, none⟩) (p.length + 80) (p.length + 80)) ∧ Row4 w' g (room4 p) ∧ Below w.heap.size w w' := by
  obtain ⟨i, hi, hz0, hz1, hz2⟩ := info_parts info_run
  have HV := Lib.hid hv
  obtain ⟨ao, cap, rfl, h1, h2, _⟩ := hv
  unfold maxLen at h2
  go_enter Try.func21, Try.ntmps21
  go_wp2_with (at_make; refine wpList_make_full _ rfl _ _ 23 rfl w.heap.size 30 i (.agg #[.int .i64 0, .string ⟨#[]⟩, .int .u64 0, .int .u64 0]) 4 Try.underlying23 hi hz0 hz1 _ _ _ _ (p.length + 80) rfl rfl (by omega) (by omega) (by rw [hz2]; omega) (by simp only [maxLen]; omega) (by simp) ?_)
  intro w1 hown hgrow
  have hb1 : Below w.heap.size w w1 := ((Below.refl _ _).alloc (Nat.le_refl _) _).grown hgrow (by simp) (by simp)
  have hmk : w1.heap[w.heap.size]? = some (.cells #[.int .i64 0, .string ⟨#[109, 97, 114, 107]⟩, .int .u64 0, .int .u64 0] 30 (0, 0)) := (hgrow.block w.heap.size (by simp) (by simp)).trans (Array.getElem?_push_size (xs := w.heap))
  have hr1 : Row4 w1 (w.heap.size + 1) (List.replicate (p.length + 80) z4) := made4 hown
  have HR1 := Lib.hid hr1
  have HMk := Lib.hid hmk
  have HV1 := Lib.hid (HV.out.below hb1)
  have HB1 := Lib.hid hb1
  clear hown hgrow hr1 hmk hb1 hi hz0 hz1 hz2
  go_wp2_with (refine wpList_copy4 rfl (.tmp 11) (.tmp 12) rfl (m := 80) rfl rfl HR1.out HV1.out ?_)
  intro w2 HR2 HK2
  have HB2 : Hid (Below w.heap.size w w2) := HB1.out.trans (HK2.out.below HB1.out.size (fun k _ e => by omega))
  have HM2 : Hid (w2.heap[w.heap.size]? = some (.cells #[.int .i64 0, .string ⟨#[109, 97, 114, 107]⟩, .int .u64 0, .int .u64 0] 30 (0, 0))) := (HK2.out.block w.heap.size (Array.getElem?_eq_some_iff.1 HMk.out).1 (by omega)).trans HMk.out
  have HF2 : Hid (Row4 w2 (w.heap.size + 1) (fill4 p 0)) := HR2.out
  clear HR2 HK2 HR1 HMk HV1 HB1
  go_wp2_with fail
  go_loopw [6] (fun iv wr => ∃ k : Nat, k ≤ 80 ∧ iv = .int .i64 ((p.length + k : Nat) : Int) ∧ Hid (Row4 wr (w.heap.size + 1) (fill4 p k)) ∧ Hid (wr.heap[w.heap.size]? = some (.cells #[.int .i64 0, .string ⟨#[109, 97, 114, 107]⟩, .int .u64 0, .int .u64 0] 30 (0, 0))) ∧ Hid (Below w.heap.size w wr)) (fun iv _ => p.length + 80 - (intOf iv).toNat)
  case atStart => exact ⟨0, by omega, rfl, HF2, HM2, HB2⟩
  case round =>
    clear HF2 HM2 HB2
    obtain ⟨k, hk, rfl, HF, HM, HB⟩ := hrel
    by_cases hlt : k < 80
    · have hl := fill4_len p k hk
      obtain ⟨j, hj⟩ : ∃ j, p.length + k = j := ⟨_, rfl⟩
      have c0 := HF.out.cell j 0 (by omega) (by omega)
      have c1 := HF.out.cell j 1 (by omega) (by omega)
      have c2 := HF.out.cell j 2 (by omega) (by omega)
      have c3 := HF.out.cell j 3 (by omega) (by omega)
      simp only [encR, List.getElem?_cons_zero, List.getElem?_cons_succ, Nat.add_zero] at c0 c1 c2 c3
      have f0 : wr.frozen? ⟨w.heap.size + 1, j * 4, none⟩ = false := by simp [World.frozen?, show wr.heap[w.heap.size + 1]? = _ from HF.out]
      have f1 : wr.frozen? ⟨w.heap.size + 1, j * 4 + 1, none⟩ = false := by simp [World.frozen?, show wr.heap[w.heap.size + 1]? = _ from HF.out]
      have f2 : wr.frozen? ⟨w.heap.size + 1, j * 4 + 2, none⟩ = false := by simp [World.frozen?, show wr.heap[w.heap.size + 1]? = _ from HF.out]
      have f3 : wr.frozen? ⟨w.heap.size + 1, j * 4 + 3, none⟩ = false := by simp [World.frozen?, show wr.heap[w.heap.size + 1]? = _ from HF.out]
      have m0 : wr.cell? ⟨w.heap.size, 0, none⟩ = some (.int .i64 0) := by rw [cell_of_row _ _ _ _ _ _ HM.out]; rfl
      have m1 : wr.cell? ⟨w.heap.size, 1, none⟩ = some (.string ⟨#[109, 97, 114, 107]⟩) := by rw [cell_of_row _ _ _ _ _ _ HM.out]; rfl
      have m2 : wr.cell? ⟨w.heap.size, 2, none⟩ = some (.int .u64 0) := by rw [cell_of_row _ _ _ _ _ _ HM.out]; rfl
      have m3 : wr.cell? ⟨w.heap.size, 3, none⟩ = some (.int .u64 0) := by rw [cell_of_row _ _ _ _ _ _ HM.out]; rfl
      have HS := Lib.hid (HF.out.set j (by omega) mk4)
      have HSe : Hid ((fill4 p k).set j mk4 = fill4 p (k + 1)) := by
        show _ = _
        rw [← hj]
        exact fill4_set p k hlt
      have ji : (j : Int) < (p.length : Int) + 80 := by omega
      have jn : j < p.length + 80 := by omega
      have hw1 : IntKind.i64.wrap ((j : Int) + 1) = ((j + 1 : Nat) : Int) := by rw [IntKind.wrap_i64]; omega
      have HJ : Hid (p.length + k = j) := hj
      rw [hj]
      generalize (fill4 p k)[j]'(by omega) = y at *
      clear hj hl
      go_wp2_with fail
      go_roundw
      case rel =>
        refine ⟨k + 1, by omega, by have := HJ.out; congr 1; omega, ?_, ?_, (((HB.out.setCell (Nat.le_succ _) _).setCell (Nat.le_succ _) _).setCell (Nat.le_succ _) _).setCell (Nat.le_succ _) _⟩
        · have h := HS.out
          rw [HSe.out] at h
          exact h
        · exact (Below.heap_setCell _ _ _ _ (by simp)).trans ((Below.heap_setCell _ _ _ _ (by simp)).trans ((Below.heap_setCell _ _ _ _ (by simp)).trans ((Below.heap_setCell _ _ _ _ (by simp)).trans HM.out)))
      case measure => simp [intOf]; omega
    · obtain rfl : k = 80 := by omega
      go_wp2_with fail
      go_ret
      refine ⟨w.heap.size + 1, by omega, rfl, ?_, HB.out⟩
      have h := HF.out
      rw [fill4_end] at h
      exact h
/-- two slots that are the same -/
theorem eq_rn (w : World) (k : Int) (s : ByteArray) (a b : Int) : (Op.equalIn 10000 30 (.agg #[.int .i64 k, .string s, .int .u64 a, .int .u64 b]) (.agg #[.int .i64 k, .string s, .int .u64 a, .int .u64 b])).run Try.prog w = .ok true w := by
  have u1 := Try.underlying3
  have a1 := Try.isAgg3
  have z1 := Try.sizeOf3
  have u6 := Try.underlying22
  have a6 := Try.isAgg22
  have z6 := Try.sizeOf22
  have u3 := Try.underlying9
  have a3 := Try.isAgg9
  have zz3 := Try.sizeOf9
  have hS : Try.prog.underlying 30 = some (.struct (Try.prog.fieldsOf 30)) := by kernel_rfl
  have hp : Try.prog.stoodInHeld 30 = false := by kernel_rfl
  rw [show (10000 : Nat) = 9999 + 1 from rfl, run_equalIn_agg w 9999 30 _ _ hS hp]
  simp only [Program.fieldsOf, Try.underlying30]
  go_simp
theorem guard_rn : Try.prog.eqGuardType Try.prog.depth 30 = false := by kernel_rfl
theorem neq_rn (w : World) (k : Int) (s : ByteArray) (a b : Int) : (binOp .neq 30 (.agg #[.int .i64 k, .string s, .int .u64 a, .int .u64 b]) (.agg #[.int .i64 k, .string s, .int .u64 a, .int .u64 b])).run Try.prog w = .ok (.bool false) w := by
  rw [run_neq_struct, eq_rn]
  rfl
theorem step_neq_rn {w : World} {ops : Array Oper} {o : Oper} {a : Act} {K : Act → World → Prop} {Q : Exit → Act → World → Prop} {E : Prop} (k' : Int) (s' : ByteArray) (b c : Int) (hw : Region.wanted o (yielded ops a.tmps) = true) (x y : Operand) {t' : TypeId} (ho : o.op = .binOp .neq 30 x y t')
    (hx : a.eval x = .agg #[.int .i64 k', .string s', .int .u64 b, .int .u64 c]) (hy : a.eval y = .agg #[.int .i64 k', .string s', .int .u64 b, .int .u64 c]) (h : K (a.put o.dst (.bool false)) w) : if Region.wanted o (yielded ops a.tmps) = true then Oper.wp Try.prog o a w K Q else E := by
  rw [if_pos hw]
  unfold Oper.wp execOp
  have hg : (eqGuard .neq 30 x y (.agg #[.int .i64 k', .string s', .int .u64 b, .int .u64 c]) (.agg #[.int .i64 k', .string s', .int .u64 b, .int .u64 c])).run Try.prog w = .ok () w := run_eqGuard_agg w _ _ _ _ _ _ guard_rn
  simp only [ho, hx, hy, Sem.run_bind, Sem.run_pure, Result.andThen_ok, hg, neq_rn]
  exact h
set_option maxRecDepth 100000 in
set_option maxHeartbeats 4000000 in
theorem sameR_any {u v : Value} {xs : List R4} {w : World} (hu : Rn w u xs) (hv : Rn w v xs) :
    Calls Try.prog 34 #[u, v] w fun e w' => e = .returned (.bool true) ∧ Below w.heap.size w w' := by
  have HU := Lib.hid hu
  have HV := Lib.hid hv
  obtain ⟨ao, c1, rfl, h1, h2, _⟩ := hu
  obtain ⟨ao2, c2, rfl, h3, h4, _⟩ := hv
  unfold maxLen at h2 h4
  obtain ⟨n, hn⟩ : ∃ n, xs.length = n := ⟨_, rfl⟩
  rw [hn] at h1 h3 ⊢
  have HN := Lib.hid hn
  clear hn
  go_enter Try.func34, Try.ntmps34
  go_wp2_with fail
  go_loopw [5] (fun iv wr => ∃ k : Nat, k ≤ n ∧ iv = .int .i64 (k : Int) ∧ Hid (Below w.heap.size w wr)) (fun iv _ => n - (intOf iv).toNat)
  case atStart => exact ⟨0, Nat.zero_le _, rfl, Below.refl _ _⟩
  case round =>
    obtain ⟨k, hk, rfl, HB⟩ := hrel
    by_cases hlt : k < n
    · have hkx : k < xs.length := by rw [HN.out]; exact hlt
      have ji : (k : Int) < (n : Int) := by omega
      have hw1 : IntKind.i64.wrap ((k : Int) + 1) = ((k + 1 : Nat) : Int) := by rw [IntKind.wrap_i64]; omega
      obtain ⟨_, _, e1, _, _, _, hc1⟩ := HU.out.below HB.out
      obtain ⟨_, _, e2, _, _, _, hc2⟩ := HV.out.below HB.out
      simp only [Value.slice.injEq] at e1 e2
      obtain ⟨rfl, _, rfl⟩ := e1
      obtain ⟨rfl, _, rfl⟩ := e2
      obtain ⟨b1, o1, rfl, q0, q1, q2, q3⟩ := hc1 k hkx
      obtain ⟨b2, o2, rfl, p0, p1, p2, p3⟩ := hc2 k hkx
      clear hc1 hc2
      generalize xs[k] = x at *
      obtain ⟨xk, s, f, t⟩ := x
      simp only at q0 q1 q2 q3 p0 p1 p2 p3
      go_wp2_with fail
      go_region_law (refine step_neq_rn xk s (f : Int) (t : Int) (by kernel_rfl) (.tmp 20) (.tmp 24) (by rfl) (by rfl) (by rfl) ?_)
      all_goals
        go_wp2_with fail
        go_roundw
        case rel => exact ⟨k + 1, by omega, rfl, by repeat (first | exact HB.out | refine Below.drew ?_)⟩
        case measure => simp [intOf]; omega
    · go_wp2_with fail
      go_ret
      exact ⟨rfl, HB.out⟩

set_option maxRecDepth 100000 in
set_option maxHeartbeats 4000000 in
theorem intactR_any {v : Value} {p : List R4} {w : World} {g : Nat} (hr : Row4 w g (room4 p)) (hv : Rn w v p) (hp : p.length ≤ 3518437208780) :
    Calls Try.prog 23 #[.slice (some ⟨g, 0, none⟩) (p.length + 80) (p.length + 80), v, .agg #[.int .i64 0, .string ⟨#[109, 97, 114, 107]⟩, .int .u64 0, .int .u64 0]] w fun e w' => e = .returned (.bool true) ∧ Below w.heap.size w w' := by
  have HV := Lib.hid hv
  have HRw := Lib.hid hr
  have hb3 := hv
  obtain ⟨ao, cap, rfl, h1, h2, h3, _⟩ := hb3
  unfold maxLen at h2
  have HP := Lib.hid (fun W (h : Row4 W g (room4 p)) => by
    have := h.rd (n := p.length) (c := p.length + 80) (by rw [room4_len]; omega) (by omega) (by unfold maxLen; omega) (by rw [room4, List.take_left]; exact h3)
    rw [room4, List.take_left] at this
    exact this)
  have HB0 : Hid (Below w.heap.size w (w.alloc (.cells #[.int .i64 0, .string ⟨#[109, 97, 114, 107]⟩, .int .u64 0, .int .u64 0] 30))) := (Below.refl _ _).alloc (Nat.le_refl _) _
  have HM0 : Hid ((w.alloc (.cells #[.int .i64 0, .string ⟨#[109, 97, 114, 107]⟩, .int .u64 0, .int .u64 0] 30)).heap[w.heap.size]? = some (.cells #[.int .i64 0, .string ⟨#[109, 97, 114, 107]⟩, .int .u64 0, .int .u64 0] 30 (0, 0))) := Array.getElem?_push_size (xs := w.heap)
  have HS := Lib.hid (sameR_any (HP.out _ (HRw.out.below HB0.out)) (HV.out.below HB0.out))
  clear hr hv h3
  go_enter Try.func23, Try.ntmps23
  go_wp2_with fail
  refine HS.out.mono ?_
  rintro e w1 ⟨rfl, hb1⟩
  have HB1 : Hid (Below w.heap.size w w1) := HB0.out.trans (hb1.mono HB0.out.size)
  have HM1 : Hid (w1.heap[w.heap.size]? = some (.cells #[.int .i64 0, .string ⟨#[109, 97, 114, 107]⟩, .int .u64 0, .int .u64 0] 30 (0, 0))) := (hb1.block w.heap.size (Array.getElem?_eq_some_iff.1 HM0.out).1).trans HM0.out
  clear hb1 HS HB0 HM0
  go_wp2_with fail
  go_loopw [7] (fun iv wr => ∃ j : Nat, p.length ≤ j ∧ j ≤ p.length + 80 ∧ iv = .int .i64 (j : Int) ∧ Hid (wr.heap[w.heap.size]? = some (.cells #[.int .i64 0, .string ⟨#[109, 97, 114, 107]⟩, .int .u64 0, .int .u64 0] 30 (0, 0))) ∧ Hid (Below w.heap.size w wr)) (fun iv _ => p.length + 80 - (intOf iv).toNat)
  case atStart => exact ⟨p.length, by omega, by omega, rfl, HM1, HB1⟩
  case round =>
    clear HM1 HB1
    obtain ⟨j, hj0, hj1, rfl, HM, HB⟩ := hrel
    by_cases hlt : j < p.length + 80
    · have hrr := HRw.out.below HB.out
      have hg : (room4 p)[j]'(by rw [room4_len]; omega) = mk4 := by
        unfold room4
        rw [List.getElem_append_right (by omega), List.getElem_replicate]
      have c0 := hrr.cell j 0 (by rw [room4_len]; omega) (by omega)
      have c1 := hrr.cell j 1 (by rw [room4_len]; omega) (by omega)
      have c2 := hrr.cell j 2 (by rw [room4_len]; omega) (by omega)
      have c3 := hrr.cell j 3 (by rw [room4_len]; omega) (by omega)
      rw [hg] at c0 c1 c2 c3
      simp only [mk4, encR, List.getElem?_cons_zero, List.getElem?_cons_succ, Nat.add_zero] at c0 c1 c2 c3
      have m0 : wr.cell? ⟨w.heap.size, 0, none⟩ = some (.int .i64 0) := by rw [cell_of_row _ _ _ _ _ _ HM.out]; rfl
      have m1 : wr.cell? ⟨w.heap.size, 1, none⟩ = some (.string ⟨#[109, 97, 114, 107]⟩) := by rw [cell_of_row _ _ _ _ _ _ HM.out]; rfl
      have m2 : wr.cell? ⟨w.heap.size, 2, none⟩ = some (.int .u64 0) := by rw [cell_of_row _ _ _ _ _ _ HM.out]; rfl
      have m3 : wr.cell? ⟨w.heap.size, 3, none⟩ = some (.int .u64 0) := by rw [cell_of_row _ _ _ _ _ _ HM.out]; rfl
      have ji : (j : Int) < (p.length : Int) + 80 := by omega
      have hw1 : IntKind.i64.wrap ((j : Int) + 1) = ((j + 1 : Nat) : Int) := by rw [IntKind.wrap_i64]; omega
      clear hrr hg
      go_wp2_with fail
      go_region_law (refine step_neq_rn 0 ⟨#[109, 97, 114, 107]⟩ 0 0 (by kernel_rfl) (.tmp 34) (.tmp 35) (by rfl) (by rfl) (by rfl) ?_)
      all_goals
        go_wp2_with fail
        go_roundw
        case rel => exact ⟨j + 1, by omega, by omega, rfl, HM, by repeat (first | exact HB.out | refine Below.drew ?_)⟩
        case measure => simp [intOf]; omega
    · obtain rfl : j = p.length + 80 := by omega
      go_wp2_with fail
      go_ret
      exact ⟨rfl, HB.out⟩
end Go.Proofs.Ytkhlkbgolonkkaa
/- Lanes: Flatten of any lane, as the document has it; the law's told. Own work. -/
namespace Go.Proofs.Ytkhlkbgolonkkaa
open Go.RowKit
set_option linter.unusedVariables false
theorem flatten_any {w : World} {v : Value} {xs : List R4} {m : Nat} {q cp : Int} {nd : Bool} (h : Rn w v xs) : Calls Try.prog 10 #[.int .u64 (m : Int), .agg #[.int .i64 q, .int .u64 cp, .bool nd, v]] w fun e w' => ∃ u, e = .returned (.tuple #[u, .int .i64 (flE m nd xs).1, .int .i64 (flE m nd xs).2.1]) ∧ OwnS w' w.heap.size u (flE m nd xs).2.2 ∧ Below w.heap.size w w' := by
  unfold flE
  by_cases hm : m = 0 ∨ 65536 < m
  · rw [if_pos hm]
    refine (flatten_unframed hm).mono ?_
    rintro e w' ⟨rfl, hb⟩
    exact ⟨_, rfl, OwnS.nil _ _, hb⟩
  · rw [if_neg hm]
    have h0 : 1 ≤ m := by omega
    have h1 : m ≤ 65536 := by omega
    cases nd with
    | false =>
      refine (flatten_runs h h0 h1).mono ?_
      rintro e w' ⟨hb, ⟨hr, rfl⟩ | ⟨hr, hl, rfl⟩ | ⟨hr, hl, u, rfl, ho⟩⟩
      · rw [if_pos hr]
        exact ⟨_, rfl, OwnS.nil _ _, hb⟩
      · obtain ⟨a1, _, _⟩ := refF_ok _ _ _ hr
        have e1 : madeF m xs = tickR xs (whoT false xs) m := runs_row a1 h0
        rw [e1] at hl
        rw [if_neg (by rw [hr]; simp), if_pos hl]
        exact ⟨_, rfl, OwnS.nil _ _, hb⟩
      · obtain ⟨a1, _, _⟩ := refF_ok _ _ _ hr
        have e1 : madeF m xs = tickR xs (whoT false xs) m := runs_row a1 h0
        rw [e1] at hl ho
        rw [if_neg (by rw [hr]; simp), if_neg (by omega)]
        exact ⟨_, rfl, ho, hb⟩
    | true =>
      refine (flatten_needs h h0 h1).mono ?_
      rintro e w' ⟨hb, ⟨hr, rfl⟩ | ⟨hr, ws, cs, rs, hed, hend, hcase⟩⟩
      · rw [if_pos hr]
        exact ⟨_, rfl, OwnS.nil _ _, hb⟩
      · obtain ⟨⟨a1, a2, a3⟩, _⟩ := refN_ok h1 _ _ _ hr
        have J := ed_edf a1 a2 h0 (by have := a3 0; omega) hed
        have e1 : rs = tickR xs (whoT true xs) m := needs_row J hend
        rw [if_neg (by rw [hr]; simp)]
        rcases hcase with ⟨hl, rfl⟩ | ⟨hl, u, rfl, ho⟩
        · rw [e1] at hl
          rw [if_pos hl]
          exact ⟨_, rfl, OwnS.nil _ _, hb⟩
        · rw [e1] at hl ho
          rw [if_neg (by omega)]
          exact ⟨_, rfl, ho, hb⟩
theorem flE_i64 (m : Nat) (nd : Bool) (xs : List R4) : ∀ x ∈ (flE m nd xs).2.2, I64 x := by
  unfold flE
  by_cases hm : m = 0 ∨ 65536 < m
  · rw [if_pos hm]
    intro x hx
    cases hx
  · rw [if_neg hm]
    split
    · intro x hx
      cases hx
    · split
      · intro x hx
        cases hx
      · intro x hx
        have h5 := gd_bounds _ _ _ (tickR_gd xs (whoT nd xs) m).1 x hx
        rw [endE_endF, tickR_end] at h5
        unfold I64
        omega
/-- what told holds -/
structure Tl (w W : World) (v : Value) (xs : List R4) (q cp : Int) (nd : Bool) (g yb : Nat) : Prop where
  below : Below w.heap.size w W
  lb : W.heap[w.heap.size]? = some (.cells #[.int .i64 q, .int .u64 cp, .bool nd, v] 25 (0, 0))
  mb : W.heap[w.heap.size + 1]? = some (.cells #[.int .i64 0, .string ⟨#[109, 97, 114, 107]⟩, .int .u64 0, .int .u64 0] 30 (0, 0))
  yb : W.heap[yb]? = some (.cells #[.int .i64 q, .int .u64 cp, .bool nd, .slice (some ⟨g, 0, none⟩) xs.length (xs.length + 80)] 25 (0, 0))
  row : Row4 W g (room4 xs)
  rn : Rn W v xs
theorem Tl.go {w W W' : World} {v : Value} {xs : List R4} {q cp : Int} {nd : Bool} {g yb : Nat} (h : Tl w W v xs q cp nd g yb) (hb : Below W.heap.size W W') : Tl w W' v xs q cp nd g yb :=
  ⟨h.below.trans (hb.mono h.below.size), (hb.block _ (Array.getElem?_eq_some_iff.1 h.lb).1).trans h.lb, (hb.block _ (Array.getElem?_eq_some_iff.1 h.mb).1).trans h.mb, (hb.block _ (Array.getElem?_eq_some_iff.1 h.yb).1).trans h.yb, h.row.below hb, h.rn.below hb⟩
theorem Tl.ry {w W : World} {v : Value} {xs : List R4} {q cp : Int} {nd : Bool} {g yb : Nat} (h : Tl w W v xs q cp nd g yb) (hl : xs.length ≤ 3518437208780) : Rn W (.slice (some ⟨g, 0, none⟩) xs.length (xs.length + 80)) xs := by
  obtain ⟨_, _, _, _, _, hok, _⟩ := h.rn
  have h5 := h.row.rd (n := xs.length) (c := xs.length + 80) (by rw [room4_len]; omega) (by omega) (by unfold maxLen; omega) (by rw [room4, List.take_left]; exact hok)
  rw [room4, List.take_left] at h5
  exact h5
set_option maxRecDepth 100000 in
set_option maxHeartbeats 8000000 in
theorem told_any {w : World} {v : Value} {xs : List R4} {m : Nat} {q cp : Int} {nd : Bool} (h : Rn w v xs) (hl : xs.length ≤ 3518437208780) : Calls Try.prog 8 #[.int .u64 (m : Int), .agg #[.int .i64 q, .int .u64 cp, .bool nd, v]] w fun e w' => e = .returned (.bool true) ∧ Below w.heap.size w w' := by
  have HR := Lib.hid h
  have HLe := Lib.hid hl
  obtain ⟨ao, cap, rfl, h1, h2, h3, h4⟩ := h
  clear h3 h4
  unfold maxLen at h2
  obtain ⟨n, hn⟩ : ∃ n, xs.length = n := ⟨_, rfl⟩
  have HN := Lib.hid hn
  rw [hn] at h1 hl HR ⊢
  clear hn
  have HB1 : Hid (Below w.heap.size w ((w.alloc (.cells #[.int .i64 q, .int .u64 cp, .bool nd, .slice ao n cap] 25)).alloc (.cells #[.int .i64 0, .string ⟨#[109, 97, 114, 107]⟩, .int .u64 0, .int .u64 0] 30))) := ((Below.refl _ _).alloc (Nat.le_refl _) _).alloc (by simp) _
  have HX0 : Hid (((w.alloc (.cells #[.int .i64 q, .int .u64 cp, .bool nd, .slice ao n cap] 25)).alloc (.cells #[.int .i64 0, .string ⟨#[109, 97, 114, 107]⟩, .int .u64 0, .int .u64 0] 30)).heap[w.heap.size]? = some (.cells #[.int .i64 q, .int .u64 cp, .bool nd, .slice ao n cap] 25 (0, 0))) := by
    show _ = _
    have h5 := ((Below.refl (w.heap.size + 1) (w.alloc (.cells #[.int .i64 q, .int .u64 cp, .bool nd, .slice ao n cap] 25))).alloc (by simp) (.cells #[.int .i64 0, .string ⟨#[109, 97, 114, 107]⟩, .int .u64 0, .int .u64 0] 30)).block w.heap.size (by omega)
    rw [h5]
    exact Array.getElem?_push_size (xs := w.heap)
  have HX1 : Hid (((w.alloc (.cells #[.int .i64 q, .int .u64 cp, .bool nd, .slice ao n cap] 25)).alloc (.cells #[.int .i64 0, .string ⟨#[109, 97, 114, 107]⟩, .int .u64 0, .int .u64 0] 30)).heap[w.heap.size + 1]? = some (.cells #[.int .i64 0, .string ⟨#[109, 97, 114, 107]⟩, .int .u64 0, .int .u64 0] 30 (0, 0))) := by
    show _ = _
    have h5 := Array.getElem?_push_size (xs := (w.alloc (.cells #[.int .i64 q, .int .u64 cp, .bool nd, .slice ao n cap] 25)).heap) (x := .cells #[.int .i64 0, .string ⟨#[109, 97, 114, 107]⟩, .int .u64 0, .int .u64 0] 30)
    rw [show (w.alloc (.cells #[.int .i64 q, .int .u64 cp, .bool nd, .slice ao n cap] 25)).heap.size = w.heap.size + 1 by simp] at h5
    exact h5
  have HRo := Lib.hid (roomyR_any (HR.out.below HB1.out) HLe.out)
  rw [HN.out] at HRo
  have HSz : Hid (((w.alloc (.cells #[.int .i64 q, .int .u64 cp, .bool nd, .slice ao n cap] 25)).alloc (.cells #[.int .i64 0, .string ⟨#[109, 97, 114, 107]⟩, .int .u64 0, .int .u64 0] 30)).heap.size = w.heap.size + 2) := by show _ = _; simp
  go_enter Try.func8, Try.ntmps8
  go_wp2_with fail
  refine HRo.out.mono ?_
  rintro e w2 ⟨g, hg, rfl, hrow, hb2⟩
  have hz2 : w.heap.size + 2 ≤ w2.heap.size := by have := hb2.size; have := HSz.out; omega
  have hg2 : w.heap.size + 2 ≤ g := by have := HSz.out; omega
  have HGl : Hid (g < w2.heap.size) := hrow.lt
  have X0 := Lib.hid ((hb2.block w.heap.size (by have := HSz.out; omega)).trans HX0.out)
  have X1 := Lib.hid ((hb2.block (w.heap.size + 1) (by have := HSz.out; omega)).trans HX1.out)
  have HB2 : Hid (Below w.heap.size w w2) := HB1.out.trans (hb2.mono HB1.out.size)
  have HRw := Lib.hid hrow
  clear hrow hb2 HB1 HX0 HX1 HRo HSz hg
  have x0 : w2.cell? ⟨w.heap.size, 0, none⟩ = some (.int .i64 q) := by rw [cell_of_row _ _ _ _ _ _ X0.out]; rfl
  have x1 : w2.cell? ⟨w.heap.size, 1, none⟩ = some (.int .u64 cp) := by rw [cell_of_row _ _ _ _ _ _ X0.out]; rfl
  have x2 : w2.cell? ⟨w.heap.size, 2, none⟩ = some (.bool nd) := by rw [cell_of_row _ _ _ _ _ _ X0.out]; rfl
  have x3 : w2.cell? ⟨w.heap.size, 3, none⟩ = some (.slice ao n cap) := by rw [cell_of_row _ _ _ _ _ _ X0.out]; rfl
  have x3' := cell_alloc x3 (.cells #[.int .i64 q, .int .u64 cp, .bool nd, .slice ao n cap] 25)
  have HTl : Hid (Tl w (w2.alloc (.cells #[.int .i64 q, .int .u64 cp, .bool nd, .slice (some ⟨g, 0, none⟩) n (n + 80)] 25)) (.slice ao n cap) xs q cp nd g w2.heap.size) := by
    have hs : Below w2.heap.size w2 (w2.alloc (.cells #[.int .i64 q, .int .u64 cp, .bool nd, .slice (some ⟨g, 0, none⟩) n (n + 80)] 25)) := (Below.refl _ _).alloc (Nat.le_refl _) _
    refine ⟨HB2.out.trans (hs.mono HB2.out.size), (hs.block _ (by omega)).trans X0.out, (hs.block _ (by omega)).trans X1.out, ?_, HRw.out.below hs, (HR.out.below HB2.out).below hs⟩
    rw [HN.out]
    exact Array.getElem?_push_size (xs := w2.heap)
  have hn80 : n ≤ n + 80 := by omega
  have HFl := Lib.hid (flatten_any (m := m) (q := q) (cp := cp) (nd := nd) (HTl.out.ry HLe.out))
  rw [HN.out] at HFl
  have HRn : Hid (∀ W, Tl w W (.slice ao n cap) xs q cp nd g w2.heap.size → Rn W (.slice (some ⟨g, 0, none⟩) n (n + 80)) xs) := fun W hW => by
    have h5 := hW.ry HLe.out
    rw [HN.out] at h5
    exact h5
  clear X0 X1 HRw HB2 HR
  have HI := Lib.hid (flE_i64 m nd xs)
  have HRf : Hid (∀ W, Tl w W (.slice ao n cap) xs q cp nd g w2.heap.size → Calls Try.prog 11 #[.int .u64 (m : Int), .agg #[.int .i64 q, .int .u64 cp, .bool nd, .slice ao n cap]] W fun e w' => ∃ u, e = .returned (.tuple #[u, .int .i64 (flE m nd xs).1, .int .i64 (flE m nd xs).2.1]) ∧ OwnS w' W.heap.size u (flE m nd xs).2.2 ∧ Below W.heap.size W w') := fun W hW => rFlatten_any hW.rn
  have HD1 : Hid (∀ W, Tl w W (.slice ao n cap) xs q cp nd g w2.heap.size → Calls Try.prog 17 #[.int .u64 (m : Int), .agg #[.int .i64 q, .int .u64 cp, .bool nd, .slice (some ⟨g, 0, none⟩) n (n + 80)]] W fun e w' => e = .returned (demV (demF m nd xs)) ∧ Below W.heap.size W w') := fun W hW => demand_any (HRn.out _ hW) HLe.out
  have HD2 : Hid (∀ W, Tl w W (.slice ao n cap) xs q cp nd g w2.heap.size → Calls Try.prog 22 #[.int .u64 (m : Int), .agg #[.int .i64 q, .int .u64 cp, .bool nd, .slice ao n cap]] W fun e w' => e = .returned (demV (demF m nd xs)) ∧ Below W.heap.size W w') := fun W hW => rDemand_any hW.rn HLe.out
  obtain ⟨dn, db, hd⟩ : ∃ (d : Int) (b : Bool), demV (demF m nd xs) = .tuple #[.int .u64 d, .bool b] := by
    cases demF m nd xs with
    | none => exact ⟨_, _, rfl⟩
    | some d => exact ⟨_, _, rfl⟩
  rw [hd] at HD1 HD2
  clear hd
  obtain ⟨F1, hF1⟩ : ∃ F, (flE m nd xs).1 = F := ⟨_, rfl⟩
  obtain ⟨F2, hF2⟩ : ∃ F, (flE m nd xs).2.1 = F := ⟨_, rfl⟩
  obtain ⟨F3, hF3⟩ : ∃ F, (flE m nd xs).2.2 = F := ⟨_, rfl⟩
  rw [hF1, hF2, hF3] at HFl HRf
  rw [hF3] at HI
  clear hF1 hF2 hF3
  have HCe : Hid (∀ W, Tl w W (.slice ao n cap) xs q cp nd g w2.heap.size → (W.cell? ⟨w.heap.size, 0, none⟩ = some (.int .i64 q) ∧ W.cell? ⟨w.heap.size, 1, none⟩ = some (.int .u64 cp) ∧ W.cell? ⟨w.heap.size, 2, none⟩ = some (.bool nd) ∧ W.cell? ⟨w.heap.size, 3, none⟩ = some (.slice ao n cap)) ∧ (W.cell? ⟨w2.heap.size, 0, none⟩ = some (.int .i64 q) ∧ W.cell? ⟨w2.heap.size, 1, none⟩ = some (.int .u64 cp) ∧ W.cell? ⟨w2.heap.size, 2, none⟩ = some (.bool nd) ∧ W.cell? ⟨w2.heap.size, 3, none⟩ = some (.slice (some ⟨g, 0, none⟩) n (n + 80))) ∧ W.cell? ⟨w.heap.size + 1, 0, none⟩ = some (.int .i64 0) ∧ W.cell? ⟨w.heap.size + 1, 1, none⟩ = some (.string ⟨#[109, 97, 114, 107]⟩) ∧ W.cell? ⟨w.heap.size + 1, 2, none⟩ = some (.int .u64 0) ∧ W.cell? ⟨w.heap.size + 1, 3, none⟩ = some (.int .u64 0)) := fun W hW => by
    have hy := hW.yb
    rw [HN.out] at hy
    refine ⟨⟨?_, ?_, ?_, ?_⟩, ⟨?_, ?_, ?_, ?_⟩, ?_, ?_, ?_, ?_⟩
    · rw [cell_of_row _ _ _ _ _ _ hW.lb]; rfl
    · rw [cell_of_row _ _ _ _ _ _ hW.lb]; rfl
    · rw [cell_of_row _ _ _ _ _ _ hW.lb]; rfl
    · rw [cell_of_row _ _ _ _ _ _ hW.lb]; rfl
    · rw [cell_of_row _ _ _ _ _ _ hy]; rfl
    · rw [cell_of_row _ _ _ _ _ _ hy]; rfl
    · rw [cell_of_row _ _ _ _ _ _ hy]; rfl
    · rw [cell_of_row _ _ _ _ _ _ hy]; rfl
    · rw [cell_of_row _ _ _ _ _ _ hW.mb]; rfl
    · rw [cell_of_row _ _ _ _ _ _ hW.mb]; rfl
    · rw [cell_of_row _ _ _ _ _ _ hW.mb]; rfl
    · rw [cell_of_row _ _ _ _ _ _ hW.mb]; rfl
  have HIn : Hid (∀ W, Tl w W (.slice ao n cap) xs q cp nd g w2.heap.size → Calls Try.prog 23 #[.slice (some ⟨g, 0, none⟩) (n + 80) (n + 80), .slice ao n cap, .agg #[.int .i64 0, .string ⟨#[109, 97, 114, 107]⟩, .int .u64 0, .int .u64 0]] W fun e w' => e = .returned (.bool true) ∧ Below W.heap.size W w') := fun W hW => by
    have h5 := intactR_any hW.row hW.rn HLe.out
    rw [HN.out] at h5
    exact h5
  go_wp2_with fail
  refine HFl.out.mono ?_
  rintro e w3 ⟨u3, rfl, ho3, hb3⟩
  have HT3 := Lib.hid (HTl.out.go hb3)
  have HO3 := Lib.hid (ho3.rs HI.out)
  obtain ⟨a3, c3, rfl⟩ := ho3.form
  obtain ⟨⟨l0, l1, l2, l3⟩, _, _⟩ := HCe.out _ HT3.out
  clear ho3 hb3 HTl HFl x0 x1 x2 x3 x3'
  go_wp2_with fail
  refine (HRf.out _ HT3.out).mono ?_
  rintro e w4 ⟨u4, rfl, ho4, hb4⟩
  have HT4 := Lib.hid (HT3.out.go hb4)
  have HO4 := Lib.hid (ho4.rs HI.out)
  have HO34 := Lib.hid (HO3.out.below hb4)
  obtain ⟨a4, c4, rfl⟩ := ho4.form
  clear ho4 hb4 HRf HT3 HO3 l0 l1 l2 l3
  obtain ⟨_, ⟨l0, l1, l2, l3⟩, _⟩ := HCe.out _ HT4.out
  go_wp2_with fail
  refine (HD1.out _ HT4.out).mono ?_
  rintro e w5 ⟨rfl, hb5⟩
  have HT5 := Lib.hid (HT4.out.go hb5)
  have HO5 := Lib.hid (HO4.out.below hb5)
  have HO35 := Lib.hid (HO34.out.below hb5)
  clear hb5 HD1 HT4 HO4 HO34 l0 l1 l2 l3
  obtain ⟨⟨l0, l1, l2, l3⟩, _, _⟩ := HCe.out _ HT5.out
  go_wp2_with fail
  refine (HD2.out _ HT5.out).mono ?_
  rintro e w6 ⟨rfl, hb6⟩
  have HT6 := Lib.hid (HT5.out.go hb6)
  have HO6 := Lib.hid (HO5.out.below hb6)
  have HO36 := Lib.hid (HO35.out.below hb6)
  clear hb6 HD2 HT5 HO5 HO35 l0 l1 l2 l3
  have HSm := Lib.hid (same3_any HO36.out HO6.out)
  go_wp2_with fail
  refine HSm.out.mono ?_
  rintro e w7 ⟨rfl, hb7⟩
  have HT7 := Lib.hid (HT6.out.go hb7)
  obtain ⟨⟨l0, l1, l2, l3⟩, _, m0, m1, m2, m3⟩ := HCe.out _ HT7.out
  clear hb7 HSm HT6 HO6 HO36 l0 l1 l2
  have hdd : (dn == dn) = true := by simp
  have hbb : (db == db) = true := by simp
  go_wp2_with fail
  refine (HIn.out _ HT7.out).mono ?_
  rintro e w8 ⟨rfl, hb8⟩
  have HT8 := Lib.hid (HT7.out.go hb8)
  clear hb8
  go_wp2_with fail
  go_ret
  exact ⟨rfl, HT8.out.below⟩
set_option maxRecDepth 100000 in
set_option maxHeartbeats 4000000 in
theorem lanesFlattens_walk {w : World} {v : Value} {xs : List R4} {m : Nat} {q cp : Int} {nd : Bool} (h : Rn w v xs) (hl : xs.length ≤ 3518437208780) : Calls Try.prog 3 #[.int .u64 (m : Int), .agg #[.int .i64 q, .int .u64 cp, .bool nd, v]] w fun e w' => e = .returned (.bool true) ∧ Below w.heap.size w w' := by
  have HLx0 := Lib.hid (Lx.start (lane := #[.int .i64 q, .int .u64 cp, .bool nd, v]) h)
  have HLe := Lib.hid hl
  obtain ⟨ao, cap, rfl, h1, h2, h3, h4⟩ := h
  clear h3 h4 hl
  obtain ⟨n, hn⟩ : ∃ n, xs.length = n := ⟨_, rfl⟩
  rw [hn] at h1 HLx0 ⊢
  clear hn
  have HG : Hid (∀ W, Lx w W #[.int .i64 q, .int .u64 cp, .bool nd, .slice ao n cap] (.slice ao n cap) xs → Calls Try.prog 6 #[.int .u64 (m : Int), .agg #[.int .i64 q, .int .u64 cp, .bool nd, .slice ao n cap]] W fun e w' => (e = .returned (.bool true) ∨ e = .returned (.bool false)) ∧ Below W.heap.size W w') := fun W hW => great_any hW.rn
  have HT : Hid (∀ W, Lx w W #[.int .i64 q, .int .u64 cp, .bool nd, .slice ao n cap] (.slice ao n cap) xs → Calls Try.prog 8 #[.int .u64 (m : Int), .agg #[.int .i64 q, .int .u64 cp, .bool nd, .slice ao n cap]] W fun e w' => e = .returned (.bool true) ∧ Below W.heap.size W w') := fun W hW => told_any hW.rn HLe.out
  have HK := Lib.hid known_any
  have HCe : Hid (∀ W, Lx w W #[.int .i64 q, .int .u64 cp, .bool nd, .slice ao n cap] (.slice ao n cap) xs → W.cell? ⟨w.heap.size, 0, none⟩ = some (.int .i64 q) ∧ W.cell? ⟨w.heap.size, 1, none⟩ = some (.int .u64 cp) ∧ W.cell? ⟨w.heap.size, 2, none⟩ = some (.bool nd) ∧ W.cell? ⟨w.heap.size, 3, none⟩ = some (.slice ao n cap)) := fun W hW => by
    refine ⟨?_, ?_, ?_, ?_⟩
    · rw [cell_of_row _ _ _ _ _ _ hW.lb]; rfl
    · rw [cell_of_row _ _ _ _ _ _ hW.lb]; rfl
    · rw [cell_of_row _ _ _ _ _ _ hW.lb]; rfl
    · rw [cell_of_row _ _ _ _ _ _ hW.lb]; rfl
  go_enter Try.func3, Try.ntmps3
  go_wp2_with fail
  refine (HG.out _ HLx0.out).mono ?_
  rintro e w1 ⟨hg, hb1⟩
  have HL1 := Lib.hid (HLx0.out.go hb1)
  obtain ⟨l0, l1, l2, l3⟩ := HCe.out _ HL1.out
  clear hb1 HLx0 HG
  rcases hg with rfl | rfl
  · go_wp2_with fail
    refine (HK.out _).mono ?_
    rintro e w2 ⟨rfl, hb2⟩
    have HB2 : Hid (Below w.heap.size w w2) := HL1.out.below.trans (hb2.mono HL1.out.below.size)
    clear hb2
    go_wp2_with fail
    go_ret
    exact ⟨rfl, HB2.out⟩
  · go_wp2_with fail
    refine (HT.out _ HL1.out).mono ?_
    rintro e w2 ⟨rfl, hb2⟩
    have HL2 := Lib.hid (HL1.out.go hb2)
    clear hb2 l0 l1 l2 l3 HL1
    obtain ⟨l0, l1, l2, l3⟩ := HCe.out _ HL2.out
    go_wp2_with fail
    refine (HT.out _ HL2.out).mono ?_
    rintro e w3 ⟨rfl, hb3⟩
    have HL3 := Lib.hid (HL2.out.go hb3)
    clear hb3 l0 l1 l2 l3 HL2
    go_wp2_with fail
    refine (HK.out _).mono ?_
    rintro e w4 ⟨rfl, hb4⟩
    have HB4 : Hid (Below w.heap.size w w4) := HL3.out.below.trans (hb4.mono HL3.out.below.size)
    clear hb4
    go_wp2_with fail
    go_ret
    exact ⟨rfl, HB4.out⟩
end Go.Proofs.Ytkhlkbgolonkkaa
