/- LanesNeeds: the walk. Own work. -/
import Derived.Test.YtkhlkbgolonkkaaLnNdT
import Derived.Test.YtkhlkbgolonkkaaLnNamed
import Derived.Test.YtkhlkbgolonkkaaLnGreat
import Derived.Test.YtkhlkbgolonkkaaLnRuX
import Derived.BigQuiet
import Derived.Deep.DeepCutAuto
namespace Go.Proofs.Ytkhlkbgolonkkaa
open Go.RowKit
set_option linter.unusedVariables false
/-- where the law's lane and what came in lie -/
structure Nl (w wr : World) (u : Value) (ys : List R4) : Prop where
  below : Below w.heap.size w wr
  lb : wr.heap[w.heap.size]? = some (.cells #[.int .i64 0, .int .u64 0, .bool true, u] 25 (0, 0))
  rn : Rn wr u ys
theorem Nl.go {w wr w' : World} {u : Value} {ys : List R4} (h : Nl w wr u ys) (hb : Below wr.heap.size wr w') : Nl w w' u ys :=
  ⟨h.below.trans (hb.mono h.below.size), (hb.block _ (Array.getElem?_eq_some_iff.1 h.lb).1).trans h.lb, h.rn.below hb⟩
theorem Rn.keeps {S : Nat → Prop} {w w' : World} {v : Value} {xs : List R4} (h : Rn w v xs) (hk : Keeps S w w') (hn : ∀ k, v.ownBlock = some k → ¬ S k) : Rn w' v xs := by
  obtain ⟨ao, cap, rfl, h1, h2, h4, h3⟩ := h
  refine ⟨ao, cap, rfl, h1, h2, h4, fun i hi => ?_⟩
  obtain ⟨b, o, rfl, c0, c1, c2, c3⟩ := h3 i hi
  have hb := hk.block b (World.block_lt_of_cell? w _ c0) (hn b rfl)
  refine ⟨b, o, rfl, ?_, ?_, ?_, ?_⟩
  · rw [World.cell?_of_block (w := w) (a := ⟨b, _, none⟩) hb]; exact c0
  · rw [World.cell?_of_block (w := w) (a := ⟨b, _, none⟩) hb]; exact c1
  · rw [World.cell?_of_block (w := w) (a := ⟨b, _, none⟩) hb]; exact c2
  · rw [World.cell?_of_block (w := w) (a := ⟨b, _, none⟩) hb]; exact c3
theorem ren_ok {xs ys : List R4} {m : Nat} (h : ∀ r ∈ ys, 1 ≤ r.b ∧ r.b ≤ r.p ∧ r.p ≤ m ∧ m % r.p = 0) (hr : Ren xs ys xs.length) : ∀ r ∈ ys, NdOk m r := by
  intro r hm
  obtain ⟨j, hj, e⟩ := List.mem_iff_getElem.1 hm
  have h1 := hr.2 j hj (by rw [← hr.1]; exact hj)
  have h2 := h r hm
  exact ⟨h2.1, h2.2.1, h2.2.2.1, h2.2.2.2, by rw [← e]; exact h1.2.2.2⟩
theorem wantN_append (m : Nat) (xs ys : List R4) : wantN m (xs ++ ys) = wantN m xs + wantN m ys := by
  induction xs with
  | nil => simp [wantN]
  | cons x r ih => simp only [List.cons_append, wantN, ih]; omega
theorem info_u64v : (Try.prog.info? 22).map (fun i => (i.zero, i.size, i.bytes)) = some (some (.int .u64 0), 1, 8) := by kernel_rfl
theorem madeU {w : World} {base g n : Nat} (h : w.ownsRow base 22 1 (.slice (some ⟨g, 0, none⟩) n n) n (madeCells #[Value.int .u64 0] n).toList) : OwnV w base 22 (.slice (some ⟨g, 0, none⟩) n n) (uv (List.replicate n 0)) := by
  unfold OwnV
  rw [uv_len, List.length_replicate]
  have e : (madeCells #[Value.int .u64 0] n).toList = uv (List.replicate n 0) := by
    apply List.ext_getElem?
    intro j
    by_cases hj : j < n
    · have hj' : j < (madeCells #[Value.int .u64 0] n).size := by rw [size_madeCells]; omega
      rw [Array.getElem?_toList, Array.getElem?_eq_getElem hj', List.getElem?_eq_getElem (by rw [uv_len, List.length_replicate]; exact hj)]
      simp [madeCells, uv, Nat.mod_one]
    · rw [List.getElem?_eq_none (by rw [Array.length_toList, size_madeCells]; omega), List.getElem?_eq_none (by rw [uv_len, List.length_replicate]; omega)]
  rw [← e]
  exact h
/-- the law's row of done ticks -/
def Dn (w : World) (g N : Nat) (l : List Nat) : Prop := l.length = N ∧ OwnV w g 22 (.slice (some ⟨g, 0, none⟩) N N) (uv l)
theorem Dn.cell {w : World} {g N : Nat} {l : List Nat} (h : Dn w g N l) (j : Nat) (hj : j < l.length) : w.cell? ⟨g, j, none⟩ = some (.int .u64 (l[j] : Int)) := by
  have h5 := h.2
  rw [← h.1, ← uv_len l] at h5
  rw [h5.cell j (by rw [uv_len]; exact hj), uv_get l j hj]
theorem Dn.thawed {w : World} {g N : Nat} {l : List Nat} (h : Dn w g N l) (j : Nat) : w.frozen? ⟨g, j, none⟩ = false := by
  have h5 := h.2
  rw [← h.1, ← uv_len l] at h5
  exact h5.thawed j
theorem Dn.lt {w : World} {g N : Nat} {l : List Nat} (h : Dn w g N l) : g < w.heap.size := (h.2.lt g rfl).2
theorem Dn.below {w w' : World} {g N : Nat} {l : List Nat} (h : Dn w g N l) (hb : Below w.heap.size w w') : Dn w' g N l := ⟨h.1, h.2.below hb⟩
theorem Dn.set {w : World} {g N : Nat} {l : List Nat} (h : Dn w g N l) (j x : Nat) : Dn (w.setCell ⟨g, j, none⟩ (.int .u64 (x : Int))) g N (l.set j x) := by
  refine ⟨by rw [List.length_set]; exact h.1, ?_⟩
  have h5 := h.2
  have e : (uv l).length = N := by rw [uv_len]; exact h.1
  rw [← e] at h5
  have h6 := h5.set j (.int .u64 (x : Int))
  rw [uv_set, e] at h6
  exact h6
theorem bdq {B : Nat} {a w : World} (h : Below B a w) (n : Nat) : Below B a (w.drewN n) := h.trans ⟨rfl, rfl, rfl, Nat.le_refl _, fun _ _ => rfl⟩
set_option maxRecDepth 100000 in
set_option maxHeartbeats 8000000 in
theorem lanesNeeds_walk {w : World} {v : Value} {xs : List R4} {m : Nat} {q cp : Int} {nd : Bool} (h : Rn w v xs) (hl : xs.length ≤ 3518437208780) : Calls Try.prog 4 #[.int .u64 (m : Int), .agg #[.int .i64 q, .int .u64 cp, .bool nd, v]] w fun e w' => e = .returned (.bool true) ∧ Below w.heap.size w w' := by
  have HNa := Lib.hid (fun W (hb : Below w.heap.size w W) => named_any (q := q) (cp := cp) (nd := nd) (h.below hb) hl)
  obtain ⟨ao, cap, rfl, h1, h2, h3, h4⟩ := h
  clear h3 h4
  unfold maxLen at h2
  obtain ⟨n, hn⟩ : ∃ n, xs.length = n := ⟨_, rfl⟩
  rw [hn] at h1 HNa ⊢
  have HB0 : Hid (Below w.heap.size w (w.alloc (.cells #[.int .i64 q, .int .u64 cp, .bool nd, .slice ao n cap] 25))) := (Below.refl _ _).alloc (Nat.le_refl _) _
  have HX0 : Hid ((w.alloc (.cells #[.int .i64 q, .int .u64 cp, .bool nd, .slice ao n cap] 25)).heap[w.heap.size]? = some (.cells #[.int .i64 q, .int .u64 cp, .bool nd, .slice ao n cap] 25 (0, 0))) := Array.getElem?_push_size (xs := w.heap)
  have HK := Lib.hid known_any
  go_enter Try.func4, Try.ntmps4
  go_wp2_with fail
  refine (HNa.out _ HB0.out).mono ?_
  rintro e w1 ⟨u, rfl, ys, hrn, hren, hub, hb1⟩
  have hx1 : w1.heap[w.heap.size]? = some (.cells #[.int .i64 q, .int .u64 cp, .bool nd, .slice ao n cap] 25 (0, 0)) := (hb1.block w.heap.size (Array.getElem?_eq_some_iff.1 HX0.out).1).trans HX0.out
  have p0 : w1.cell? ⟨w.heap.size, 0, none⟩ = some (.int .i64 q) := by rw [cell_of_row _ _ _ _ _ _ hx1]; rfl
  have p1 : w1.cell? ⟨w.heap.size, 1, none⟩ = some (.int .u64 cp) := by rw [cell_of_row _ _ _ _ _ _ hx1]; rfl
  have p2 : w1.cell? ⟨w.heap.size, 2, none⟩ = some (.bool nd) := by rw [cell_of_row _ _ _ _ _ _ hx1]; rfl
  have p3 : w1.cell? ⟨w.heap.size, 3, none⟩ = some (.slice ao n cap) := by rw [cell_of_row _ _ _ _ _ _ hx1]; rfl
  have f0 : w1.frozen? ⟨w.heap.size, 0, none⟩ = false := by simp [World.frozen?, hx1]
  have f1 : w1.frozen? ⟨w.heap.size, 1, none⟩ = false := by simp [World.frozen?, hx1]
  have f2 : w1.frozen? ⟨w.heap.size, 2, none⟩ = false := by simp [World.frozen?, hx1]
  have f3 : w1.frozen? ⟨w.heap.size, 3, none⟩ = false := by simp [World.frozen?, hx1]
  have hws : (w.alloc (.cells #[.int .i64 q, .int .u64 cp, .bool nd, .slice ao n cap] 25)).heap.size = w.heap.size + 1 := by simp
  rw [hws] at hub
  have hrn' := hrn
  obtain ⟨ua, uc, hu, hu1, hu2, _, _⟩ := hrn'
  subst hu
  obtain ⟨N, hN⟩ : ∃ N, ys.length = N := ⟨_, rfl⟩
  have HN := Lib.hid hN
  have HRe : Hid (Ren xs ys xs.length) := by rw [hn]; exact hren
  rw [hN] at hrn hub hu1 ⊢
  have HL1 : Hid (Nl w ((((w1.setCell ⟨w.heap.size, 0, none⟩ (.int .i64 0)).setCell ⟨w.heap.size, 1, none⟩ (.int .u64 0)).setCell ⟨w.heap.size, 2, none⟩ (.bool true)).setCell ⟨w.heap.size, 3, none⟩ (.slice ua N uc)) (.slice ua N uc) ys) := by
    have hk9 : Keeps (fun k => k = w.heap.size) w1 ((((w1.setCell ⟨w.heap.size, 0, none⟩ (.int .i64 0)).setCell ⟨w.heap.size, 1, none⟩ (.int .u64 0)).setCell ⟨w.heap.size, 2, none⟩ (.bool true)).setCell ⟨w.heap.size, 3, none⟩ (.slice ua N uc)) := (((Keeps.setCell _ _ _ _).trans (Keeps.setCell _ _ _ _) (fun _ _ e => e)).trans (Keeps.setCell _ _ _ _) (fun _ _ e => e)).trans (Keeps.setCell _ _ _ _) (fun _ _ e => e)
    have hbw : Below w.heap.size w w1 := HB0.out.trans (hb1.mono HB0.out.size)
    refine ⟨hbw.trans (hk9.below hbw.size (fun k _ e => by omega)), ?_, hrn.keeps hk9 (fun k hk e => by have := hub k hk; omega)⟩
    simp [World.setCell, Array.getElem?_modify, hx1]
  have HG := Lib.hid (fun W (h : Nl w W (.slice ua N uc) ys) => great_any (m := m) (q := 0) (cp := 0) (nd := true) h.rn)
  unfold maxLen at hu2
  clear hren hb1 hx1 HNa HB0 HX0 hN hws hn hrn
  go_wp2_with fail
  refine (HG.out _ HL1.out).mono ?_
  rintro e w2 ⟨hg, hb2⟩
  have HL2 := Lib.hid (HL1.out.go hb2)
  have q3 : w2.cell? ⟨w.heap.size, 3, none⟩ = some (.slice ua N uc) := by rw [cell_of_row _ _ _ _ _ _ HL2.out.lb]; rfl
  clear hb2 HL1 HG p0 p1 p2 p3 f0 f1 f2 f3
  have HEnd : Hid (∀ W, Nl w W (.slice ua N uc) ys → Calls Try.prog 7 #[] W fun e w' => e = .returned (.bool true) ∧ Below w.heap.size w w') := fun W hW => (HK.out W).mono fun e w' ⟨he, hb⟩ => ⟨he, hW.below.trans (hb.mono hW.below.size)⟩
  clear HK
  rcases hg with rfl | rfl
  · go_wp2_with fail
    refine (HEnd.out _ HL2.out).mono ?_
    rintro e w3 ⟨rfl, hb3⟩
    have HB3 := Lib.hid hb3
    clear hb3
    go_wp2_with fail
    go_ret
    exact ⟨rfl, HB3.out⟩
  · by_cases m1 : m < 1
    · have j1 : (m : Int) < 1 := by omega
      go_wp2_with fail
      refine (HEnd.out _ HL2.out).mono ?_
      rintro e w3 ⟨rfl, hb3⟩
      have HB3 := Lib.hid hb3
      clear hb3
      go_wp2_with fail
      go_ret
      exact ⟨rfl, HB3.out⟩
    have j1 : ¬ (m : Int) < 1 := by omega
    by_cases m2 : 65536 < m
    · have j2 : (65536 : Int) < (m : Int) := by omega
      go_wp2_with fail
      refine (HEnd.out _ HL2.out).mono ?_
      rintro e w3 ⟨rfl, hb3⟩
      have HB3 := Lib.hid hb3
      clear hb3
      go_wp2_with fail
      go_ret
      exact ⟨rfl, HB3.out⟩
    have j2 : ¬ (65536 : Int) < (m : Int) := by omega
    by_cases n2 : 2000 < N
    · have j3 : (2000 : Int) < (N : Int) := by omega
      go_wp2_with fail
      refine (HEnd.out _ HL2.out).mono ?_
      rintro e w3 ⟨rfl, hb3⟩
      have HB3 := Lib.hid hb3
      clear hb3
      go_wp2_with fail
      go_ret
      exact ⟨rfl, HB3.out⟩
    have j3 : ¬ (2000 : Int) < (N : Int) := by omega
    have HM : Hid (1 ≤ m ∧ m ≤ 65536 ∧ N ≤ 2000) := ⟨by omega, by omega, by omega⟩
    have dj1 : decide ((m : Int) < 1) = false := decide_eq_false j1
    have dj2 : decide ((65536 : Int) < (m : Int)) = false := decide_eq_false j2
    have dj3 : decide ((2000 : Int) < (N : Int)) = false := decide_eq_false j3
    clear j1 j2 j3
    clear m1 m2 n2
    go_wp2_with fail
    go_loopw [5, 6] (fun sv iv wr => ∃ (i s : Nat), i ≤ N ∧ iv = .int .i64 (i : Int) ∧ sv = .int .u64 (s : Int) ∧ s ≤ i * 65536 ∧ Hid (wantN m (ys.take i) = s) ∧ Hid (∀ r ∈ ys.take i, 1 ≤ r.b ∧ r.b ≤ r.p ∧ r.p ≤ m ∧ m % r.p = 0) ∧ Hid (Nl w wr (.slice ua N uc) ys)) (fun _ iv _ => N - (intOf iv).toNat)
    case atStart => exact ⟨0, 0, by omega, rfl, rfl, by omega, rfl, (fun r h => by simp at h), HL2⟩
    case round =>
      clear HL2
      obtain ⟨i, s, hi, rfl, rfl, hs, HS, HA, HLr⟩ := hrel
      have y3 : wr.cell? ⟨w.heap.size, 3, none⟩ = some (.slice ua N uc) := by rw [cell_of_row _ _ _ _ _ _ HLr.out.lb]; rfl
      by_cases hin : i < N
      · have hix : i < ys.length := by rw [HN.out]; exact hin
        have ji : (i : Int) < (N : Int) := by omega
        have jc : (N : Int) ≤ (uc : Int) := by omega
        have hw1 : IntKind.i64.wrap ((i : Int) + 1) = ((i + 1 : Nat) : Int) := by rw [IntKind.wrap_i64]; omega
        obtain ⟨_, _, e', _, _, hok, hc⟩ := HLr.out.rn
        simp only [Value.slice.injEq] at e'
        obtain ⟨rfl, hNn, rfl⟩ := e'
        clear hNn
        obtain ⟨b, of, rfl, c0, c1, c2, c3⟩ := hc i hix
        have HT : Hid (ys.take (i + 1) = ys.take i ++ [ys[i]]) := List.take_succ_eq_append_getElem hix
        have HOk : Hid (R4.ok ys[i]) := hok _ (List.getElem_mem _)
        clear hc hok
        generalize ys[i] = x at *
        obtain ⟨xk, x_s, xb, xp⟩ := x
        simp only at c0 c1 c2 c3
        have HLa : Hid (Nl w (wr.alloc (.cells #[.int .i64 xk, .string x_s, .int .u64 (xb : Int), .int .u64 (xp : Int)] 30)) (.slice (some ⟨b, of, none⟩) N uc) ys) := HLr.out.go ((Below.refl _ _).alloc (Nat.le_refl _) _)
        by_cases k1 : xb < 1
        · have l1 : (xb : Int) < 1 := by omega
          go_wp2_with fail
          refine (HEnd.out _ HLa.out).mono ?_
          rintro e w3 ⟨rfl, hb3⟩
          have HB3 := Lib.hid hb3
          clear hb3
          go_wp2_with fail
          go_ret
          exact ⟨rfl, HB3.out⟩
        have l1 : ¬ (xb : Int) < 1 := by omega
        by_cases k2 : xp < xb
        · have l2 : (xp : Int) < (xb : Int) := by omega
          go_wp2_with fail
          refine (HEnd.out _ HLa.out).mono ?_
          rintro e w3 ⟨rfl, hb3⟩
          have HB3 := Lib.hid hb3
          clear hb3
          go_wp2_with fail
          go_ret
          exact ⟨rfl, HB3.out⟩
        have l2 : ¬ (xp : Int) < (xb : Int) := by omega
        by_cases k3 : m < xp
        · have l3 : (m : Int) < (xp : Int) := by omega
          go_wp2_with fail
          refine (HEnd.out _ HLa.out).mono ?_
          rintro e w3 ⟨rfl, hb3⟩
          have HB3 := Lib.hid hb3
          clear hb3
          go_wp2_with fail
          go_ret
          exact ⟨rfl, HB3.out⟩
        have l3 : ¬ (m : Int) < (xp : Int) := by omega
        have l0 : (xp : Int) ≠ 0 := by omega
        have l00 : ¬ xp = 0 := by omega
        obtain ⟨d, hd⟩ : ∃ d, m % xp = d := ⟨_, rfl⟩
        have jd : (m : Int).tmod (xp : Int) = (d : Int) := by rw [← hd]; rfl
        by_cases k4 : d = 0
        · obtain ⟨D, hD⟩ : ∃ D, m / xp = D := ⟨_, rfl⟩
          have jD : (m : Int).tdiv (xp : Int) = (D : Int) := by rw [← hD]; rfl
          have hle : D * xb ≤ 65536 := by
            have h9 : D * xp ≤ m := by rw [← hD]; exact Nat.div_mul_le_self m xp
            have h10 : D * xb ≤ D * xp := Nat.mul_le_mul_left D (by omega)
            have := HM.out
            omega
          have hDm : D ≤ m := by rw [← hD]; exact Nat.div_le_self m xp
          obtain ⟨Q, hQ⟩ : ∃ Q, D * xb = Q := ⟨_, rfl⟩
          rw [hQ] at hle
          have hwD : IntKind.u64.wrap (D : Int) = (D : Int) := by have := HM.out; rw [IntKind.wrap_u64]; omega
          have hwQ : IntKind.u64.wrap ((D : Int) * (xb : Int)) = (Q : Int) := by
            rw [show (D : Int) * (xb : Int) = ((D * xb : Nat) : Int) by simp, hQ, IntKind.wrap_u64]; omega
          have hws2 : IntKind.u64.wrap ((s : Int) + (Q : Int)) = ((s + Q : Nat) : Int) := by have := HM.out; rw [IntKind.wrap_u64]; omega
          have HS2 : Hid (wantN m (ys.take (i + 1)) = s + Q) := by
            show _ = _
            rw [HT.out, wantN_append, HS.out]
            simp only [wantN, Nat.add_zero]
            rw [hD, Nat.mul_comm, hQ]
          have HA2 : Hid (∀ r ∈ ys.take (i + 1), 1 ≤ r.b ∧ r.b ≤ r.p ∧ r.p ≤ m ∧ m % r.p = 0) := by
            intro r hr
            rw [HT.out] at hr
            rcases List.mem_append.1 hr with hr | hr
            · exact HA.out r hr
            · simp only [List.mem_singleton] at hr
              subst hr
              exact ⟨by show 1 ≤ xb; omega, by show xb ≤ xp; omega, by show xp ≤ m; omega, by show m % xp = 0; omega⟩
          have hsq : s + Q ≤ (i + 1) * 65536 := by omega
          subst k4
          clear hd hD hQ HT HOk
          have b2 : (wr.alloc (.cells #[.int .i64 xk, .string x_s, .int .u64 (xb : Int), .int .u64 (xp : Int)] 30)).cell? ⟨wr.heap.size, 2, none⟩ = some (.int .u64 (xb : Int)) := by rw [cell_of_row _ _ _ _ _ _ (Array.getElem?_push_size (xs := wr.heap))]; rfl
          have b3 : (wr.alloc (.cells #[.int .i64 xk, .string x_s, .int .u64 (xb : Int), .int .u64 (xp : Int)] 30)).cell? ⟨wr.heap.size, 3, none⟩ = some (.int .u64 (xp : Int)) := by rw [cell_of_row _ _ _ _ _ _ (Array.getElem?_push_size (xs := wr.heap))]; rfl
          go_wp2_with fail
          go_quiet (fail)
          go_wp2_with fail
          go_roundw
          case rel => exact ⟨i + 1, s + Q, by omega, rfl, rfl, hsq, HS2, HA2, HLa.out.go (bdq (Below.refl _ _) _)⟩
          case measure => simp [intOf]; omega
        · have l4 : (d : Int) ≠ 0 := by omega
          go_wp2_with fail
          refine (HEnd.out _ HLa.out).mono ?_
          rintro e w3 ⟨rfl, hb3⟩
          have HB3 := Lib.hid hb3
          clear hb3
          go_wp2_with fail
          go_ret
          exact ⟨rfl, HB3.out⟩
      · obtain rfl : i = N := by omega
        have et : ys.take i = ys := List.take_of_length_le (by rw [HN.out]; exact Nat.le_refl _)
        rw [et] at HS HA
        have HFl := Lib.hid (flat_needs_law (q := 0) (cp := 0) HLr.out.rn HM.out.1 HM.out.2.1 (ren_ok HA.out HRe.out))
        rw [HS.out] at HFl
        have z0 : wr.cell? ⟨w.heap.size, 0, none⟩ = some (.int .i64 0) := by rw [cell_of_row _ _ _ _ _ _ HLr.out.lb]; rfl
        have z1 : wr.cell? ⟨w.heap.size, 1, none⟩ = some (.int .u64 0) := by rw [cell_of_row _ _ _ _ _ _ HLr.out.lb]; rfl
        have z2 : wr.cell? ⟨w.heap.size, 2, none⟩ = some (.bool true) := by rw [cell_of_row _ _ _ _ _ _ HLr.out.lb]; rfl
        have ji : ¬ (i : Int) < (i : Int) := by omega
        clear et
        go_wp2_with fail
        refine HFl.out.mono ?_
        rintro e w4 ⟨hb4, hcase⟩
        have HL4 := Lib.hid (HLr.out.go hb4)
        clear hb4 HFl z0 z1 z2 y3
        rcases hcase with ⟨hs1, i9, hi9, rfl⟩ | ⟨hs1, rfl⟩ | ⟨hs1, ws, cs, rs, us, rfl, ho, J, hend, hlen⟩
        · have l1 : (m : Int) < (s : Int) := by omega
          have ja : (i9 : Int) < (i : Int) := by have := HN.out; omega
          have q3 : w4.cell? ⟨w.heap.size, 3, none⟩ = some (.slice ua i uc) := by rw [cell_of_row _ _ _ _ _ _ HL4.out.lb]; rfl
          go_wp2_with fail
          refine (HEnd.out _ HL4.out).mono ?_
          rintro e w5 ⟨rfl, hb5⟩
          have HB5 := Lib.hid hb5
          clear hb5
          go_wp2_with fail
          go_ret
          exact ⟨rfl, HB5.out⟩
        · have l1 : ¬ (m : Int) < (s : Int) := by omega
          go_wp2_with fail
          refine (HEnd.out _ HL4.out).mono ?_
          rintro e w5 ⟨rfl, hb5⟩
          have HB5 := Lib.hid hb5
          clear hb5
          go_wp2_with fail
          go_ret
          exact ⟨rfl, HB5.out⟩
        · have l1 : ¬ (m : Int) < (s : Int) := by omega
          obtain ⟨N, rfl⟩ : ∃ N, N = i := ⟨_, rfl⟩
          have hgd := J.gd
          have HI : Hid (∀ x ∈ rs, x.t ≤ (m : Int) ∧ 0 ≤ x.t) := fun x hx => by
            have h5 := gd_bounds _ _ _ hgd x hx
            rw [endE_endF, hend] at h5
            exact ⟨by omega, by omega⟩
          have HJ : Hid (EdJ m ys ws cs rs ∧ endF rs = (m : Int)) := ⟨J, hend⟩
          have HLa := Lib.hid (last_to hend HM.out.1)
          obtain ⟨gs, sc, rfl, _, hgs, hsc, hsm⟩ := ho.pos HLa.out.1
          have HO4 := Lib.hid ho
          obtain ⟨L, hL⟩ : ∃ L, rs.length = L := ⟨_, rfl⟩
          have HL := Lib.hid hL
          rw [hL] at hlen hsc HO4
          simp only [hL]
          have HOk : Hid (∀ r ∈ ys, NdOk m r) := ren_ok HA.out HRe.out
          have HRs : Hid (∀ W, Below w4.heap.size w4 W → ∀ k (hk : k < rs.length), W.cell? ⟨gs, k * 3, none⟩ = some (.string rs[k].s) ∧ W.cell? ⟨gs, k * 3 + 2, none⟩ = some (.int .i64 rs[k].t)) := fun W hW k hk => ⟨(HO4.out.below hW).cell k 0 hk (by omega), (HO4.out.below hW).cell k 2 hk (by omega)⟩
          have HNl : Hid (∀ W, Below w4.heap.size w4 W → Nl w W (.slice ua N uc) ys) := fun W hW => HL4.out.go hW
          have q3 : w4.cell? ⟨w.heap.size, 3, none⟩ = some (.slice ua N uc) := by rw [cell_of_row _ _ _ _ _ _ HL4.out.lb]; rfl
          unfold maxLen at hsm
          have hN2 : N ≤ 2000 := HM.out.2.2
          obtain ⟨wA, hwA⟩ : ∃ wA, wA = wr := ⟨_, rfl⟩
          subst hwA
          obtain ⟨ii, hii, hz0, hz1, hz2⟩ := info_parts info_u64v
          clear J hend hgd ho hL HLr HS HA HO4 HL4 hi hs hs1
          go_wp2_with (at_make; refine wpList_make_full _ rfl _ _ 35 rfl w4.heap.size 22 ii (.int .u64 0) 1 Try.underlying35 hii hz0 hz1 _ _ _ _ N rfl rfl (by omega) (by omega) (by rw [hz2]; omega) (by simp only [maxLen]; omega) (Nat.le_refl _) ?_)
          intro w5 hown hgrow
          have hb5 : Below w4.heap.size w4 w5 := (Below.refl _ _).grown hgrow (Nat.le_refl _) (by simp)
          have HC5 : Hid (Dn w5 w4.heap.size N (dW ys 0 0)) := by
            refine ⟨by rw [dW_len, HN.out], ?_⟩
            have h5 := madeU hown
            rw [dW_start, HN.out]
            exact h5
          have HB5 := Lib.hid hb5
          clear hown hgrow hb5 hii hz0 hz1 hz2 q3
          go_wp2_with fail
          go_loopw [12, 13] (fun kv tv wx => ∃ t k : Nat, t ≤ m ∧ k ≤ L ∧ kv = .int .i64 (k : Int) ∧ tv = .int .u64 (t : Int) ∧ Hid (∀ j (hj : j < rs.length), j < k → rs[j].t ≤ (t : Int)) ∧ Hid (Dn wx w4.heap.size N (dW ys t 0)) ∧ Hid (Below w4.heap.size w4 wx)) (fun _ tv _ => m - (intOf tv).toNat)
          case atStart => exact ⟨0, 0, by omega, by omega, rfl, rfl, (fun j _ h => by omega), HC5, HB5⟩
          case round =>
            clear HC5 HB5
            obtain ⟨t, k, ht, hk, rfl, rfl, HK1, HC6, HB6⟩ := hrel
            obtain ⟨wO, hwO⟩ : ∃ wO, wO = wr := ⟨_, rfl⟩
            subst hwO
            by_cases htm : t < m
            · have jt : (t : Int) < (m : Int) := by omega
              have hwt : IntKind.u64.wrap ((t : Int) + 1) = ((t + 1 : Nat) : Int) := by have := HM.out; rw [IntKind.wrap_u64]; omega
              go_wp2_with fail
              go_loopw [12] (fun kv wx => ∃ k : Nat, k ≤ L ∧ kv = .int .i64 (k : Int) ∧ Hid (∀ j (hj : j < rs.length), j < k → rs[j].t ≤ (t : Int)) ∧ wx = wO) (fun kv _ => L - (intOf kv).toNat)
              case atStart => exact ⟨k, hk, rfl, HK1, rfl⟩
              case round =>
                clear HK1 hk
                obtain ⟨k, hk, rfl, HK1, hwr⟩ := hrel
                subst hwr
                by_cases hkL : k < L
                · have hkl : k < rs.length := by rw [HL.out]; exact hkL
                  obtain ⟨s0, s2⟩ := HRs.out _ HB6.out k hkl
                  have hTb := HI.out _ (List.getElem_mem hkl)
                  obtain ⟨T, hT⟩ : ∃ T : Nat, rs[k].t = (T : Int) := ⟨rs[k].t.toNat, by omega⟩
                  have HT := Lib.hid hT
                  rw [hT] at s2 hTb
                  have hTm : T ≤ m := by omega
                  have hcv : IntKind.u64.wrap (T : Int) = (T : Int) := by have := HM.out; rw [IntKind.wrap_u64]; omega
                  have hwk : IntKind.i64.wrap ((k : Int) + 1) = ((k + 1 : Nat) : Int) := by rw [IntKind.wrap_i64]; omega
                  have jkL : (k : Int) < (L : Int) := by omega
                  have jsc : (L : Int) ≤ (sc : Int) := by omega
                  clear hT hTb
                  by_cases hTt : T ≤ t
                  · have jT : (T : Int) ≤ (t : Int) := by omega
                    have HK2 : Hid (∀ j (hj : j < rs.length), j < k + 1 → rs[j].t ≤ (t : Int)) := fun j hj h => by
                      by_cases e : j = k
                      · subst e; rw [HT.out]; omega
                      · exact HK1.out j hj (by omega)
                    go_wp2_with fail
                    go_roundw
                    case rel => exact ⟨k + 1, by omega, rfl, HK2, by first | rfl | trivial⟩
                    case measure => simp [intOf]; omega
                  · have jT : ¬ (T : Int) ≤ (t : Int) := by omega
                    have jkn : ((k : Int) == (L : Int)) = false := by simp; omega
                    have HWho : Hid (rs[k].s = subj ys (bestT ys t)) := slot_who HJ.out.1 HJ.out.2 htm hkl HK1.out (by rw [HT.out]; omega)
                    clear s0
                    go_wp2_with fail
                    go_loopw [14, 15, 16] (fun fv dv iv wx => ∃ i : Nat, i ≤ N ∧ iv = .int .i64 (i : Int) ∧ fv = .int .i64 (fI (bI ys t i)) ∧ dv = .int .u64 (uD ys t (bI ys t i) : Int) ∧ Hid (Dn wx w4.heap.size N (dW ys t i)) ∧ Hid (Below w4.heap.size w4 wx)) (fun _ _ iv _ => N - (intOf iv).toNat)
                    case atStart => exact ⟨0, by omega, rfl, rfl, rfl, HC6, HB6⟩
                    case round =>
                      clear HC6 HB6 s2 hTm hcv hwk
                      obtain ⟨i, hi, rfl, rfl, rfl, HC7, HB7⟩ := hrel
                      have hNl := HNl.out wr HB7.out
                      have y3 : wr.cell? ⟨w.heap.size, 3, none⟩ = some (.slice ua N uc) := by rw [cell_of_row _ _ _ _ _ _ hNl.lb]; rfl
                      by_cases hiN : i < N
                      · have hix : i < ys.length := by rw [HN.out]; exact hiN
                        have jiN : (i : Int) < (N : Int) := by omega
                        have hw1 : IntKind.i64.wrap ((i : Int) + 1) = ((i + 1 : Nat) : Int) := by rw [IntKind.wrap_i64]; omega
                        obtain ⟨_, _, e', _, _, _, hc⟩ := hNl.rn
                        simp only [Value.slice.injEq] at e'
                        obtain ⟨rfl, hNn, rfl⟩ := e'
                        clear hNn
                        obtain ⟨b, of, rfl, c0, c1, c2, c3⟩ := hc i hix
                        have HOi : Hid (NdOk m ys[i]) := HOk.out _ (List.getElem_mem hix)
                        have HbN : Hid (bN ys i = ys[i].b) := bN_eq ys i hix
                        have HpN : Hid (pN ys i = ys[i].p) := pN_eq ys i hix
                        have HDu : Hid (dueT ys t i = (t / ys[i].p + 1) * ys[i].p) := due_at hix
                        have hgl : w4.heap.size < wr.heap.size := HC7.out.lt
                        have d1 : wr.cell? ⟨w4.heap.size, i, none⟩ = some (.int .u64 (Db ys t i : Int)) := by
                          rw [HC7.out.cell i (by rw [dW_len]; exact hix), dW_get, if_neg (by omega)]
                        have dz : wr.frozen? ⟨w4.heap.size, i, none⟩ = false := HC7.out.thawed i
                        clear hc hNl
                        generalize ys[i] = x at *
                        obtain ⟨xk, x_s, xb, xp⟩ := x
                        obtain ⟨o1, o2, o3, o4, _⟩ := HOi.out
                        simp only at c0 c1 c2 c3 o1 o2 o3 o4 HbN HpN HDu
                        have a2 : (wr.alloc (.cells #[.int .i64 xk, .string x_s, .int .u64 (xb : Int), .int .u64 (xp : Int)] 30)).cell? ⟨wr.heap.size, 2, none⟩ = some (.int .u64 (xb : Int)) := by rw [cell_of_row _ _ _ _ _ _ (Array.getElem?_push_size (xs := wr.heap))]; rfl
                        have a3 : (wr.alloc (.cells #[.int .i64 xk, .string x_s, .int .u64 (xb : Int), .int .u64 (xp : Int)] 30)).cell? ⟨wr.heap.size, 3, none⟩ = some (.int .u64 (xp : Int)) := by rw [cell_of_row _ _ _ _ _ _ (Array.getElem?_push_size (xs := wr.heap))]; rfl
                        have hba : Below wr.heap.size wr (wr.alloc (.cells #[.int .i64 xk, .string x_s, .int .u64 (xb : Int), .int .u64 (xp : Int)] 30)) := (Below.refl _ _).alloc (Nat.le_refl _) _
                        have e1 := (hba.cell (p := ⟨w4.heap.size, i, none⟩) hgl).trans d1
                        have HCa := Lib.hid (HC7.out.below hba)
                        have ez := HCa.out.thawed i
                        have HBa : Hid (Below w4.heap.size w4 (wr.alloc (.cells #[.int .i64 xk, .string x_s, .int .u64 (xb : Int), .int .u64 (xp : Int)] 30))) := HB7.out.trans (hba.mono HB7.out.size)
                        clear hba HC7 HB7
                        have l0 : (xp : Int) ≠ 0 := by omega
                        have l00 : ¬ xp = 0 := by omega
                        obtain ⟨d, hd⟩ : ∃ d, t % xp = d := ⟨_, rfl⟩
                        have HD := Lib.hid hd
                        have jd : (t : Int).tmod (xp : Int) = (d : Int) := by rw [← hd]; rfl
                        clear hd o4
                        go_upto_if 177 with fail
                        clear c0 c1 c2 c3 d1 dz y3
                        have hne : w4.heap.size ≠ wr.heap.size := by omega
                        generalize wr.alloc (.cells #[.int .i64 xk, .string x_s, .int .u64 (xb : Int), .int .u64 (xp : Int)] 30) = W at *
                        generalize wr.heap.size = bx at *
                        go_cut [] (fun wx => wx.cell? ⟨bx, 2, none⟩ = some (.int .u64 (xb : Int)) ∧ wx.cell? ⟨bx, 3, none⟩ = some (.int .u64 (xp : Int)) ∧ Hid (Dn wx w4.heap.size N (dW ys t (i + 1))) ∧ Hid (Below w4.heap.size w4 wx))
                        case first =>
                          by_cases k4 : d = 0
                          · subst k4
                            have HSet : Hid (∀ n, Dn ((W.drewN n).setCell ⟨w4.heap.size, i, none⟩ (.int .u64 0)) w4.heap.size N (dW ys t (i + 1)) ∧ Below w4.heap.size w4 ((W.drewN n).setCell ⟨w4.heap.size, i, none⟩ (.int .u64 0))) := fun n => by
                              have h5 := (HCa.out.below (bdq (Below.refl _ W) n)).set i 0
                              have h6 := dW_set ys t i
                              rw [da_zero (by rw [HpN.out]; exact HD.out)] at h6
                              rw [h6] at h5
                              exact ⟨h5, (bdq HBa.out n).setCell (Nat.le_refl _) _⟩
                            have f2 : ∀ n, ((W.drewN n).setCell ⟨w4.heap.size, i, none⟩ (.int .u64 0)).cell? ⟨bx, 2, none⟩ = some (.int .u64 (xb : Int)) := fun n => by rw [World.cell?_setCell_other _ _ _ _ (fun e => hne (by simp only [Addr.mk.injEq, and_true] at e; omega))]; exact a2
                            have f3 : ∀ n, ((W.drewN n).setCell ⟨w4.heap.size, i, none⟩ (.int .u64 0)).cell? ⟨bx, 3, none⟩ = some (.int .u64 (xp : Int)) := fun n => by rw [World.cell?_setCell_other _ _ _ _ (fun e => hne (by simp only [Addr.mk.injEq, and_true] at e; omega))]; exact a3
                            by_cases t0 : t = 0
                            · have jt0 : decide ((0 : Int) < (t : Int)) = false := decide_eq_false (by omega)
                              have jt1 : decide (0 < t) = false := decide_eq_false (by omega)
                              clear t0
                              go_wp2_with fail
                              go_quiet (fail)
                              go_wp2_with fail
                              go_meet
                              exact ⟨f2 _, f3 _, (HSet.out _).1, (HSet.out _).2⟩
                            · have jt0 : decide ((0 : Int) < (t : Int)) = true := decide_eq_true (by omega)
                              have jt1 : decide (0 < t) = true := decide_eq_true (by omega)
                              have hDf : Db ys t i = xb := by rw [← HbN.out]; exact db_full HJ.out.1 hix (by omega) (by rw [HJ.out.2]; omega) (by rw [HpN.out]; exact HD.out)
                              rw [hDf] at e1
                              clear t0 hDf
                              go_wp2_with fail
                              go_quiet (fail)
                              go_wp2_with fail
                              go_meet
                              exact ⟨f2 _, f3 _, (HSet.out _).1, (HSet.out _).2⟩
                          · have l4 : (d : Int) ≠ 0 := by omega
                            have HS2 : Hid (Dn W w4.heap.size N (dW ys t (i + 1))) := by
                              show Dn _ _ _ _
                              rw [dW_same (db_same (by rw [HpN.out, HD.out]; exact k4))]
                              exact HCa.out
                            go_wp2_with fail
                            go_meet
                            exact ⟨a2, a3, HS2, HBa⟩
                        case rest =>
                          obtain ⟨b2, b3, HC8, HB8⟩ := hcut
                          clear HCa HBa a2 a3 e1 ez
                          have g1 : wc.cell? ⟨w4.heap.size, i, none⟩ = some (.int .u64 (Da ys t i : Int)) := by
                            rw [HC8.out.cell i (by rw [dW_len]; exact hix), dW_get, if_pos (by omega)]
                          have hDm : Da ys t i ≤ xb := by rw [← HbN.out]; exact da_le ys t i
                          have HDl : Hid (Da ys t i < xb → Da ys t i < bN ys i) := fun h => by rw [HbN.out]; exact h
                          have HDg : Hid (¬ Da ys t i < xb → ¬ Da ys t i < bN ys i) := fun h => by rw [HbN.out]; exact h
                          obtain ⟨D1, hD1⟩ : ∃ D1, t / xp = D1 := ⟨_, rfl⟩
                          have jD : (t : Int).tdiv (xp : Int) = (D1 : Int) := by rw [← hD1]; rfl
                          have hle : D1 * xp ≤ 65536 := by
                            have h9 : D1 * xp ≤ t := by rw [← hD1]; exact Nat.div_mul_le_self t xp
                            have := HM.out
                            omega
                          have hD2 : D1 ≤ 65536 := by rw [← hD1]; have := Nat.div_le_self t xp; have := HM.out; omega
                          obtain ⟨E, hE⟩ : ∃ E, (D1 + 1) * xp = E := ⟨_, rfl⟩
                          have hEl : E ≤ 131072 := by rw [← hE, Nat.add_mul, Nat.one_mul]; have := HM.out; omega
                          have HDu2 : Hid (dueT ys t i = E) := by show _ = _; rw [HDu.out, hD1, hE]
                          have hwD : IntKind.u64.wrap (D1 : Int) = (D1 : Int) := by rw [IntKind.wrap_u64]; omega
                          have hwD1 : IntKind.u64.wrap ((D1 : Int) + 1) = ((D1 + 1 : Nat) : Int) := by rw [IntKind.wrap_u64]; omega
                          have hwE : IntKind.u64.wrap (((D1 : Int) + 1) * (xp : Int)) = (E : Int) := by
                            rw [show ((D1 : Int) + 1) * (xp : Int) = (((D1 + 1) * xp : Nat) : Int) by simp, hE, IntKind.wrap_u64]; omega
                          clear hD1 hE hle HDu
                          generalize hDa : Da ys t i = dn at *
                          have HDa := Lib.hid hDa
                          clear hDa
                          obtain ⟨o, ho⟩ : ∃ o, bI ys t i = o := ⟨_, rfl⟩
                          rw [ho]
                          have HO := Lib.hid ho
                          clear ho
                          by_cases kd : dn < xb
                          · have jkd : decide (dn < xb) = true := decide_eq_true kd
                            have jkd2 : decide ((dn : Int) < (xb : Int)) = true := decide_eq_true (by omega)
                            cases o with
                            | none =>
                              have HN1 : Hid (bI ys t (i + 1) = some i) := bI_first (by rw [HDa.out]; exact HDl.out kd) HO.out
                              simp only [fI, uD]
                              go_wp2_with fail
                              go_quiet (fail)
                              go_wp2_with fail
                              go_quiet (fail)
                              go_wp2_with fail
                              go_roundw
                              case rel => exact ⟨i + 1, by omega, rfl, by rw [HN1.out]; rfl, by rw [HN1.out]; show _ = Value.int .u64 ((dueT ys t i : Nat) : Int); rw [HDu2.out], HC8.out.below (bdq (Below.refl _ _) _), bdq HB8.out _⟩
                              case measure => simp [intOf]; omega
                            | some j =>
                              have jj0 : decide ((j : Int) < 0) = false := decide_eq_false (by omega)
                              have jj1 : ¬ (j : Int) < 0 := by omega
                              obtain ⟨U, hU⟩ : ∃ U, dueT ys t j = U := ⟨_, rfl⟩
                              have HU := Lib.hid hU
                              simp only [fI, uD]
                              rw [hU]
                              clear hU
                              by_cases kE : E < U
                              · have jE : decide (E < U) = true := decide_eq_true kE
                                have jE2 : decide ((E : Int) < (U : Int)) = true := decide_eq_true (by omega)
                                have HN1 : Hid (bI ys t (i + 1) = some i) := bI_sooner (by rw [HDa.out]; exact HDl.out kd) HO.out (by rw [HDu2.out, HU.out]; exact kE)
                                go_wp2_with fail
                                go_quiet (fail)
                                go_wp2_with fail
                                go_quiet (fail)
                                go_wp2_with fail
                                go_roundw
                                case rel => exact ⟨i + 1, by omega, rfl, by rw [HN1.out]; rfl, by rw [HN1.out]; show _ = Value.int .u64 ((dueT ys t i : Nat) : Int); rw [HDu2.out], HC8.out.below (bdq (Below.refl _ _) _), bdq HB8.out _⟩
                                case measure => simp [intOf]; omega
                              · have jE : decide (E < U) = false := decide_eq_false kE
                                have jE2 : decide ((E : Int) < (U : Int)) = false := decide_eq_false (by omega)
                                have HN1 : Hid (bI ys t (i + 1) = some j) := bI_later HO.out (by rw [HDu2.out, HU.out]; exact kE)
                                go_wp2_with fail
                                go_quiet (fail)
                                go_wp2_with fail
                                go_quiet (fail)
                                go_wp2_with fail
                                go_roundw
                                case rel => exact ⟨i + 1, by omega, rfl, by rw [HN1.out]; rfl, by rw [HN1.out]; show _ = Value.int .u64 ((dueT ys t j : Nat) : Int); rw [HU.out], HC8.out.below (bdq (Below.refl _ _) _), bdq HB8.out _⟩
                                case measure => simp [intOf]; omega
                          · have jkd : decide (dn < xb) = false := decide_eq_false kd
                            have jkd2 : decide ((dn : Int) < (xb : Int)) = false := decide_eq_false (by omega)
                            have HN1 : Hid (bI ys t (i + 1) = o) := by show _ = _; rw [bI_idle (by rw [HDa.out]; exact HDg.out kd)]; exact HO.out
                            go_wp2_with fail
                            go_quiet (fail)
                            go_wp2_with fail
                            go_quiet (fail)
                            go_wp2_with fail
                            go_roundw
                            case rel => exact ⟨i + 1, by omega, rfl, by rw [HN1.out], by rw [HN1.out], HC8.out.below (bdq (Below.refl _ _) _), bdq HB8.out _⟩
                            case measure => simp [intOf]; omega
                      · obtain rfl : i = N := by omega
                        have jiN : ¬ (i : Int) < (i : Int) := by omega
                        have hbt : bI ys t i = bestT ys t := by rw [← bI_full, HN.out]
                        rw [hbt]
                        obtain ⟨z0, z2⟩ := HRs.out _ HB7.out k hkl
                        clear z2 hi
                        cases hb : bestT ys t with
                        | none =>
                          have hS : rs[k].s = sN := by rw [HWho.out, hb]; rfl
                          rw [hS] at z0
                          unfold sN at z0
                          have HCn : Hid (Dn wr w4.heap.size i (dW ys (t + 1) 0)) := by
                            show Dn _ _ _ _
                            rw [← dW_none hb, HN.out]
                            exact HC7.out
                          have HKn : Hid (∀ j (hj : j < rs.length), j < k → rs[j].t ≤ ((t + 1 : Nat) : Int)) := fun j hj h => by have := HK1.out j hj h; omega
                          simp only [fI, uD]
                          clear hbt hb hS
                          go_wp2_with fail
                          go_roundw
                          case rel => exact ⟨t + 1, k, by omega, by omega, rfl, rfl, HKn, HCn, HB7⟩
                          case measure => simp [intOf]; omega
                        | some j =>
                          have hji : j < i := bI_lt (by rw [hbt]; exact hb)
                          have hjy : j < ys.length := by rw [HN.out]; exact hji
                          have hS : rs[k].s = ys[j].s := by rw [HWho.out, hb, subj_some ys j hjy]
                          rw [hS] at z0
                          obtain ⟨_, _, e', _, _, _, hc⟩ := hNl.rn
                          simp only [Value.slice.injEq] at e'
                          obtain ⟨rfl, hNn, rfl⟩ := e'
                          clear hNn
                          obtain ⟨b, of, rfl, c0, c1, c2, c3⟩ := hc j hjy
                          have d1 : wr.cell? ⟨w4.heap.size, j, none⟩ = some (.int .u64 (Da ys t j : Int)) := by
                            rw [HC7.out.cell j (by rw [dW_len]; exact hjy), dW_get, if_pos hji]
                          have dz : wr.frozen? ⟨w4.heap.size, j, none⟩ = false := HC7.out.thawed j
                          have hDl : Da ys t j ≤ 65536 := by
                            have h5 := da_le ys t j
                            rw [bN_eq ys j hjy] at h5
                            have h6 := HOk.out _ (List.getElem_mem hjy)
                            have h7 := HM.out
                            unfold NdOk at h6
                            omega
                          have HCn : Hid (∀ n, Dn ((wr.drewN n).setCell ⟨w4.heap.size, j, none⟩ (.int .u64 ((Da ys t j + 1 : Nat) : Int))) w4.heap.size i (dW ys (t + 1) 0) ∧ Below w4.heap.size w4 ((wr.drewN n).setCell ⟨w4.heap.size, j, none⟩ (.int .u64 ((Da ys t j + 1 : Nat) : Int)))) := fun n => by
                            have h5 := (HC7.out.below (bdq (Below.refl _ wr) n)).set j (Da ys t j + 1)
                            have h6 := dW_some hb
                            rw [HN.out] at h6
                            rw [h6] at h5
                            exact ⟨h5, (bdq HB7.out n).setCell (Nat.le_refl _) _⟩
                          have HKn : Hid (∀ j (hj : j < rs.length), j < k → rs[j].t ≤ ((t + 1 : Nat) : Int)) := fun j hj h => by have := HK1.out j hj h; omega
                          simp only [fI, uD]
                          clear hbt hb hS c0 c2 c3 hc
                          generalize ys[j].s = sj at *
                          generalize Da ys t j = dj at *
                          have hwj : IntKind.u64.wrap ((dj : Int) + 1) = ((dj + 1 : Nat) : Int) := by rw [IntKind.wrap_u64]; omega
                          have jj1 : ¬ (j : Int) < 0 := by omega
                          have jj2 : (j : Int) < (i : Int) := by omega
                          have hqs : (sj.toList == sj.toList) = true := by simp
                          go_wp2_with fail
                          go_quiet (fail)
                          go_wp2_with fail
                          go_roundw
                          case rel => exact ⟨t + 1, k, by omega, by omega, rfl, rfl, HKn, (HCn.out _).1, (HCn.out _).2⟩
                          case measure => simp [intOf]; omega
                · exfalso
                  obtain ⟨h0, h1⟩ := HLa.out
                  have h2 := HK1.out (rs.length - 1) (by omega) (by have := HL.out; omega)
                  rw [h1] at h2
                  omega
            · have hmt : t = m := by omega
              have jt : ¬ (t : Int) < (m : Int) := by omega
              have HDf : Hid (∀ i (h : i < ys.length), Db ys t i = ys[i].b) := fun i h => by
                rw [← bN_eq ys i h]
                refine db_full HJ.out.1 h (by have := HM.out; omega) (by rw [HJ.out.2, hmt]; omega) ?_
                rw [pN_eq ys i h, hmt]
                exact (HOk.out _ (List.getElem_mem h)).2.2.2.1
              clear hmt HK1 hk ht
              go_wp2_with fail
              go_loopw [19] (fun iv wx => ∃ i : Nat, i ≤ N ∧ iv = .int .i64 (i : Int) ∧ Hid (Dn wx w4.heap.size N (dW ys t 0)) ∧ Hid (Below w4.heap.size w4 wx)) (fun iv _ => N - (intOf iv).toNat)
              case atStart => exact ⟨0, by omega, rfl, HC6, HB6⟩
              case round =>
                clear HC6 HB6
                obtain ⟨i, hi, rfl, HC7, HB7⟩ := hrel
                have hNl := HNl.out wr HB7.out
                have y3 : wr.cell? ⟨w.heap.size, 3, none⟩ = some (.slice ua N uc) := by rw [cell_of_row _ _ _ _ _ _ hNl.lb]; rfl
                by_cases hiN : i < N
                · have hix : i < ys.length := by rw [HN.out]; exact hiN
                  have jiN : (i : Int) < (N : Int) := by omega
                  have hw1 : IntKind.i64.wrap ((i : Int) + 1) = ((i + 1 : Nat) : Int) := by rw [IntKind.wrap_i64]; omega
                  obtain ⟨_, _, e', _, _, _, hc⟩ := hNl.rn
                  simp only [Value.slice.injEq] at e'
                  obtain ⟨rfl, hNn, rfl⟩ := e'
                  clear hNn
                  obtain ⟨b, of, rfl, c0, c1, c2, c3⟩ := hc i hix
                  have d1 : wr.cell? ⟨w4.heap.size, i, none⟩ = some (.int .u64 (ys[i].b : Int)) := by
                    rw [HC7.out.cell i (by rw [dW_len]; exact hix), dW_get, if_neg (by omega), HDf.out i hix]
                  clear hc hNl c0 c1 c3
                  generalize ys[i].b = xb at *
                  go_wp2_with fail
                  go_quiet (fail)
                  go_wp2_with fail
                  go_roundw
                  case rel => exact ⟨i + 1, by omega, rfl, HC7.out.below (bdq (Below.refl _ _) _), bdq HB7.out _⟩
                  case measure => simp [intOf]; omega
                · obtain rfl : i = N := by omega
                  have jiN : ¬ (i : Int) < (i : Int) := by omega
                  go_wp2_with fail
                  refine (HEnd.out _ hNl).mono ?_
                  rintro e w8 ⟨rfl, hb8⟩
                  have HB9 := Lib.hid hb8
                  clear hb8
                  go_wp2_with fail
                  go_ret
                  exact ⟨rfl, HB9.out⟩
end Go.Proofs.Ytkhlkbgolonkkaa
