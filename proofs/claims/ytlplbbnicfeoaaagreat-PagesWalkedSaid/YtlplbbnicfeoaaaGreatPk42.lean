import Derived.Test.YtlplbbnicfeoaaaGreatPk40
import Derived.Test.YtlplbbnicfeoaaaGreatPk16
/- Pages: the document's Build, where it refuses. Own work. -/
namespace Go.Proofs.YtlplbbnicfeoaaaGreat
open Go.RowKit Wk
set_option linter.unusedVariables false
set_option maxRecDepth 100000 in
set_option maxHeartbeats 4000000 in
theorem rbuild_no {w : World} {v : Value} {xs : List L6} {base : Nat} (h : Lv w v xs) (hb : base ≤ 18446744073709551615) (hy : whyF xs base ≠ 0) : Calls Tryz.prog 10 #[v, .int .u64 (base : Int)] w fun e w' => e = .returned (.tuple #[.slice none 0 0, .int .i64 (whyF xs base)]) ∧ Below w.heap.size w w' := by
  have HCt := Lib.hid (rcount_any h)
  have hcl := countF_le xs
  obtain ⟨wy, hwy⟩ : ∃ y, whyF xs base = y := ⟨_, rfl⟩
  rw [hwy] at hy ⊢
  unfold whyF at hwy
  obtain ⟨k, hk⟩ : ∃ k, (countF xs).1 = k := ⟨_, rfl⟩
  obtain ⟨ce, hce⟩ : ∃ c, (countF xs).2 = c := ⟨_, rfl⟩
  rw [hk] at HCt hwy hcl
  rw [hce] at HCt hwy
  clear hk hce h
  by_cases h0 : ce ≠ 0
  · rw [if_pos h0] at hwy
    subst hwy
    have h0' : ¬ ce = 0 := h0
    go_enter Tryz.func10, Tryz.ntmps10
    go_wp2_with fail
    refine HCt.out.mono ?_
    rintro e w1 ⟨rfl, hb1⟩
    have HB1 := Lib.hid hb1
    clear hb1 HCt
    go_wp2_with fail
    go_ret2
    exact ⟨rfl, HB1.out⟩
  · rw [if_neg h0] at hwy
    have h0' : ce = 0 := by omega
    subst h0'
    by_cases h1 : base % 4096 ≠ 0
    · rw [if_pos h1] at hwy
      subst hwy
      obtain ⟨r, hr⟩ : ∃ r, base % 4096 = r := ⟨_, rfl⟩
      have jr : (base : Int).tmod 4096 = (r : Int) := by rw [← hr]; rfl
      have jr0 : (0 : Int) < (r : Int) := by omega
      have jr4 : r ≤ 4096 := by omega
      clear hr h1
      go_enter Tryz.func10, Tryz.ntmps10
      go_wp2_with fail
      refine HCt.out.mono ?_
      rintro e w1 ⟨rfl, hb1⟩
      have HB1 := Lib.hid hb1
      clear hb1 HCt
      go_wp2_with fail
      go_ret2
      exact ⟨rfl, HB1.out⟩
    · rw [if_neg h1] at hwy
      have jm : ((base : Int).tmod 4096) = 0 := by
        have e : (base : Int).tmod 4096 = ((base % 4096 : Nat) : Int) := rfl
        rw [e, show base % 4096 = 0 by omega]
        rfl
      cases h2 : winB base k 4294967296 with
      | true => rw [h2] at hwy; simp at hwy; exact absurd hwy.symm hy
      | false =>
        rw [if_pos h2] at hwy
        subst hwy
        have h3 : ¬ base + k * 4096 ≤ 4294967296 := of_decide_eq_false h2
        clear h1 h2
        by_cases ha : 4294967296 ≤ base
        · have ja : decide ((4294967296 : Int) ≤ (base : Int)) = true := decide_eq_true (by omega)
          have ja2 : (4294967296 : Int) ≤ (base : Int) := by omega
          go_enter Tryz.func10, Tryz.ntmps10
          go_wp2_with fail
          refine HCt.out.mono ?_
          rintro e w1 ⟨rfl, hb1⟩
          have HB1 := Lib.hid hb1
          clear hb1 HCt
          go_wp2_with fail
          go_ret2
          exact ⟨rfl, HB1.out⟩
        · have jb : decide ((4294967296 : Int) ≤ (base : Int)) = false := decide_eq_false (by omega)
          obtain ⟨q1, hq1⟩ : ∃ q : Nat, 4294967296 - base = q := ⟨_, rfl⟩
          have ws1 : IntKind.u64.wrap (4294967296 - (base : Int)) = (q1 : Int) := by rw [IntKind.wrap_u64]; omega
          obtain ⟨s1, hs1⟩ : ∃ s : Nat, q1 / 4096 = s := ⟨_, rfl⟩
          have wq1 : (q1 : Int).tdiv 4096 = (s1 : Int) := by rw [← hs1]; rfl
          have hs1b : s1 ≤ 4294967296 := by omega
          have jd : (s1 : Int) < (k : Int) := by omega
          have wk : IntKind.u64.wrap (k : Int) = (k : Int) := by rw [IntKind.wrap_u64]; omega
          clear hq1 hs1 h3 ha
          go_enter Tryz.func10, Tryz.ntmps10
          go_wp2_with fail
          refine HCt.out.mono ?_
          rintro e w1 ⟨rfl, hb1⟩
          have HB1 := Lib.hid hb1
          clear hb1 HCt
          go_wp2_with fail
          go_ret2
          exact ⟨rfl, HB1.out⟩
end Go.Proofs.YtlplbbnicfeoaaaGreat
