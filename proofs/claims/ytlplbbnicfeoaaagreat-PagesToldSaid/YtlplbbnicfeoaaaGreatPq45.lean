import Derived.Test.YtlplbbnicfeoaaaGreatPq43
import Derived.Test.YtlplbbnicfeoaaaGreatPq14
import Derived.Test.YtlplbbnicfeoaaaGreatPq24
/- Pages: the document's Build, where it refuses. Own work. -/
namespace Go.Proofs.YtlplbbnicfeoaaaGreat
open Go.RowKit Wk
set_option linter.unusedVariables false
set_option maxRecDepth 100000 in
set_option maxHeartbeats 4000000 in
theorem rbuild_no {w : World} {v : Value} {xs : List L6} {base : Nat} (h : Lv w v xs) (hb : base ≤ 18446744073709551615) (hy : whyF xs base ≠ 0) : Calls Tryz.prog 10 #[v, .int .u64 (base : Int)] w fun e w' => e = .returned (.tuple #[.slice none 0 0, .int .i64 (whyF xs base)]) ∧ Below w.heap.size w w' := by
  have HCt := Lib.hid (rcount_any h)
  have hcl := countF_le xs
  obtain ⟨wy, hwy⟩ : ∃ y, whyF xs base = y := ⟨_, rfl⟩
  rw [hwy] at hy ⊢
  unfold whyF at hwy
  obtain ⟨k, hk⟩ : ∃ k, (countF xs).1 = k := ⟨_, rfl⟩
  obtain ⟨ce, hce⟩ : ∃ c, (countF xs).2 = c := ⟨_, rfl⟩
  rw [hk] at HCt hwy hcl
  rw [hce] at HCt hwy
  clear hk hce h
  by_cases h0 : ce ≠ 0
  · rw [if_pos h0] at hwy
    subst hwy
    have h0' : ¬ ce = 0 := h0
    go_enter Tryz.func10, Tryz.ntmps10
    go_wp2_with fail
    refine HCt.out.mono ?_
    rintro e w1 ⟨rfl, hb1⟩
    have HB1 := Lib.hid hb1
    clear hb1 HCt
    go_wp2_with fail
    go_ret2
    exact ⟨rfl, HB1.out⟩
  · rw [if_neg h0] at hwy
    have h0' : ce = 0 := by omega
    subst h0'
    by_cases h1 : base % 4096 ≠ 0
    · rw [if_pos h1] at hwy
      subst hwy
      obtain ⟨r, hr⟩ : ∃ r, base % 4096 = r := ⟨_, rfl⟩
      have jr : (base : Int).tmod 4096 = (r : Int) := by rw [← hr]; rfl
      have jr0 : (0 : Int) < (r : Int) := by omega
      have jr4 : r ≤ 4096 := by omega
      clear hr h1
      go_enter Tryz.func10, Tryz.ntmps10
      go_wp2_with fail
      refine HCt.out.mono ?_
      rintro e w1 ⟨rfl, hb1⟩
      have HB1 := Lib.hid hb1
      clear hb1 HCt
      go_wp2_with fail
      go_ret2
      exact ⟨rfl, HB1.out⟩
    · rw [if_neg h1] at hwy
      have jm : ((base : Int).tmod 4096) = 0 := by
        have e : (base : Int).tmod 4096 = ((base % 4096 : Nat) : Int) := rfl
        rw [e, show base % 4096 = 0 by omega]
        rfl
      cases h2 : winB base k 4294967296 with
      | true => rw [h2] at hwy; simp at hwy; exact absurd hwy.symm hy
      | false =>
        rw [if_pos h2] at hwy
        subst hwy
        have h3 : ¬ base + k * 4096 ≤ 4294967296 := of_decide_eq_false h2
        clear h1 h2
        by_cases ha : 4294967296 ≤ base
        · have ja : decide ((4294967296 : Int) ≤ (base : Int)) = true := decide_eq_true (by omega)
          have ja2 : (4294967296 : Int) ≤ (base : Int) := by omega
          go_enter Tryz.func10, Tryz.ntmps10
          go_wp2_with fail
          refine HCt.out.mono ?_
          rintro e w1 ⟨rfl, hb1⟩
          have HB1 := Lib.hid hb1
          clear hb1 HCt
          go_wp2_with fail
          go_ret2
          exact ⟨rfl, HB1.out⟩
        · have jb : decide ((4294967296 : Int) ≤ (base : Int)) = false := decide_eq_false (by omega)
          obtain ⟨q1, hq1⟩ : ∃ q : Nat, 4294967296 - base = q := ⟨_, rfl⟩
          have ws1 : IntKind.u64.wrap (4294967296 - (base : Int)) = (q1 : Int) := by rw [IntKind.wrap_u64]; omega
          obtain ⟨s1, hs1⟩ : ∃ s : Nat, q1 / 4096 = s := ⟨_, rfl⟩
          have wq1 : (q1 : Int).tdiv 4096 = (s1 : Int) := by rw [← hs1]; rfl
          have hs1b : s1 ≤ 4294967296 := by omega
          have jd : (s1 : Int) < (k : Int) := by omega
          have wk : IntKind.u64.wrap (k : Int) = (k : Int) := by rw [IntKind.wrap_u64]; omega
          clear hq1 hs1 h3 ha
          go_enter Tryz.func10, Tryz.ntmps10
          go_wp2_with fail
          refine HCt.out.mono ?_
          rintro e w1 ⟨rfl, hb1⟩
          have HB1 := Lib.hid hb1
          clear hb1 HCt
          go_wp2_with fail
          go_ret2
          exact ⟨rfl, HB1.out⟩
end Go.Proofs.YtlplbbnicfeoaaaGreat
/- Translate where no look leaves the bus: the meter stays. Own work. -/
namespace Go.Proofs.YtlplbbnicfeoaaaGreat
open Go.RowKit Go.Maps Go.Proofs.YtlplbbnicfeoaaaGreat.Sp Wk
theorem look_b {rs : List Sp} {M : Nat → Nat} {a : Nat} {l : Int} {r : Ent × Int} (h : LookR rs M a l r true) : r = (no, 42) := by
  obtain ⟨x, _, rfl⟩ := h
  rfl
theorem leaf_b {rs : List Sp} {M : Nat → Nat} {v : Nat} {r : Ent × Int} : ∀ {n l t : Nat}, LeafR rs M v n l t r true → r = (no, 42)
  | 0, _, _, h => h.elim
  | n + 1, l, t, h => by
    obtain ⟨r0, b0, h0, ⟨_, h2, h3⟩ | ⟨_, _, h3⟩⟩ := h
    · subst h2 h3
      exact look_b h0
    · exact leaf_b h3
theorem addr_b {rs : List Sp} {M : Nat → Nat} {t v : Nat} {acc : Int} {r : Nat × Int} (h : AddrR rs M t v acc r true) : r = (0, 42) := by
  unfold AddrR at h
  split at h
  · exact absurd h.2 (by decide)
  · split at h
    · exact absurd h.2 (by decide)
    · split at h
      · exact absurd h.2 (by decide)
      · obtain ⟨e, h4, h5⟩ := h
        rw [h5, leaf_b h4]
        rfl
set_option maxRecDepth 100000 in
set_option maxHeartbeats 4000000 in
theorem translate_s {w : World} {m B : Nat} {V : Value × Value × Value} {T : Nat → Option Nat} {M : Nat → Nat} {rs ds : List Sp} {L S X t v : Nat} {acc : Int} (h : Mac w m B V T M rs ds L S X) (ht : t ≤ 18446744073709551615) (hv : v ≤ 18446744073709551615) (hX : X ≤ 4611686018427387904) (h42 : (adrF (rs ++ ds) M t v acc).2 ≠ 42) :
    Calls Tryz.prog 19 #[MemV m, .int .u64 (t : Int), .int .u64 (v : Int), .int .i64 acc] w fun e w' => e = .returned (.tuple #[.int .u64 ((adrF (rs ++ ds) M t v acc).1 : Int), FaultV (adrF (rs ++ ds) M t v acc).2 (whyAt (adrF (rs ++ ds) M t v acc).2 v : Int)]) ∧ Hid (Mac w' m B V T M rs ds L S X) ∧ Hid (Keeps (fun j => j = m) w w') := by
  have HX : Hid (Mac w m B V T M rs ds L S X) := h
  have hml := h.lt
  obtain ⟨r, hr⟩ : ∃ r, r = adrF (rs ++ ds) M t v acc := ⟨_, rfl⟩
  have HZ : Hid (r.2 ≠ 0 → r.1 = 0) := by rw [hr]; exact adrF_zero
  have HA : Hid (Calls Tryz.prog 46 #[MemV m, .int .u64 (t : Int), .int .u64 (v : Int), .int .i64 acc] (w.alloc (Obj.cells #[.int .i64 0, .int .u64 0] 57)) fun e w' => e = .returned (.tuple #[.int .u64 (r.1 : Int), .int .i64 r.2]) ∧ Hid (Mac w' m B V T M rs ds L S X) ∧ Hid (Keeps (fun j => j = m) (w.alloc (Obj.cells #[.int .i64 0, .int .u64 0] 57)) w')) := by
    refine (address_any (h.below ((Below.refl _ _).alloc (Nat.le_refl _) _)) ht hv hX).mono ?_
    rintro e w' ⟨r', b, rfl, ha, hm, hk⟩
    cases b with
    | true => exact absurd (by rw [← addr_is ha, addr_b ha]) h42
    | false =>
      rw [addr_is ha, ← hr]
      exact ⟨rfl, hm, hk⟩
  rw [← hr]
  unfold MemV at HA ⊢
  clear h hr h42
  obtain ⟨r1, r2⟩ := r
  simp only at HZ HA ⊢
  by_cases h0 : r2 = 0
  · subst h0
    go_enter Tryz.func19, Tryz.ntmps19
    go_wp2_with fail
    refine HA.out.mono ?_
    rintro e w1 ⟨rfl, HM1, HK1⟩
    have HX1 : Hid (BoxF w1 w.heap.size 0 0) := (BoxF.new w 0 0).keeps HK1.out (by omega)
    obtain ⟨x0, x1, f0, f1⟩ := HX1.out.cells
    clear HA
    go_wp2_with fail
    obtain ⟨d0, d1, _⟩ := (HX1.out.set 0 0).cells
    refine bodyPost_ret (v := .tuple #[.int .u64 (r1 : Int), .agg #[.int .i64 0, .int .u64 0]]) (by simp [results, Tryz.results19, go_sem, d0, d1]) rfl ?_
    have hk2 := Keeps.two w1 w.heap.size (.int .i64 0) (.int .u64 0)
    have hk1 : Keeps (fun j => j = m) w w1 := (Keeps.alloc (S := fun j => j = m) w _).trans HK1.out (fun _ _ e => e)
    exact ⟨rfl, HM1.out.keeps hk2 (fun j hj e => by have := HX.out.mine_lt hj; omega), hk1.trans hk2 (fun i hi e => absurd e (by omega))⟩
  · have h1 := HZ.out h0
    subst h1
    have HW : Hid (whyAt r2 v = v) := if_neg h0
    have h0e : (r2 == 0) = false := by simpa using h0
    go_enter Tryz.func19, Tryz.ntmps19
    go_wp2_with fail
    refine HA.out.mono ?_
    rintro e w1 ⟨rfl, HM1, HK1⟩
    have HX1 : Hid (BoxF w1 w.heap.size 0 0) := (BoxF.new w 0 0).keeps HK1.out (by omega)
    obtain ⟨x0, x1, f0, f1⟩ := HX1.out.cells
    clear HA
    go_wp2_with fail
    obtain ⟨d0, d1, _⟩ := (HX1.out.set r2 v).cells
    refine bodyPost_ret (v := .tuple #[.int .u64 0, .agg #[.int .i64 r2, .int .u64 (v : Int)]]) (by simp [results, Tryz.results19, go_sem, d0, d1]) rfl ?_
    have hk2 := Keeps.two w1 w.heap.size (.int .i64 r2) (.int .u64 (v : Int))
    have hk1 : Keeps (fun j => j = m) w w1 := (Keeps.alloc (S := fun j => j = m) w _).trans HK1.out (fun _ _ e => e)
    exact ⟨by rw [HW.out]; rfl, HM1.out.keeps hk2 (fun j hj e => by have := HX.out.mine_lt hj; omega), hk1.trans hk2 (fun i hi e => absurd e (by omega))⟩
end Go.Proofs.YtlplbbnicfeoaaaGreat
