import Derived.Test.YtgjamnhepbblhaaPk16
/- Pages: Count of any rows; what Build refuses. Own work. -/
namespace Go.Proofs.Ytgjamnhepbblhaa
open Go.RowKit Wk
set_option linter.unusedVariables false
/-- what Count answers -/
def countF (xs : List L6) : Nat × Int := if refuF 0 xs ≠ 0 then (0, refuF 0 xs) else if 1024 < tabsF 1 0 0 xs then (0, 4) else (tabsF 1 0 0 xs, 0)
theorem countF_le (xs : List L6) : (countF xs).1 ≤ 1024 := by
  unfold countF
  split
  · exact Nat.zero_le _
  · split
    · exact Nat.zero_le _
    · show tabsF 1 0 0 xs ≤ 1024
      omega
set_option maxRecDepth 100000 in
set_option maxHeartbeats 4000000 in
theorem count_any {w : World} {v : Value} {xs : List L6} (h : Lv w v xs) : Calls Try.prog 16 #[v] w fun e w' => e = .returned (.tuple #[.int .i64 ((countF xs).1 : Int), .int .i64 (countF xs).2]) ∧ Below w.heap.size w w' := by
  have HR := Lib.hid h
  have HRf := Lib.hid (prefusal_any h)
  have HTb : Hid (∀ W, Lv W v xs → refuF 0 xs = 0 → Calls Try.prog 32 #[v] W fun e w' => e = .returned (.int .i64 (tabsF 1 0 0 xs : Int)) ∧ Below W.heap.size W w') := fun W hW hz => tables_any hW hz
  clear h
  unfold countF
  obtain ⟨er, her⟩ : ∃ e, refuF 0 xs = e := ⟨_, rfl⟩
  obtain ⟨k, hk⟩ : ∃ k, tabsF 1 0 0 xs = k := ⟨_, rfl⟩
  rw [her] at HRf HTb ⊢
  rw [hk] at HTb ⊢
  clear her hk
  by_cases h0 : er = 0
  · subst h0
    rw [if_neg (by decide)]
    by_cases h1 : 1024 < k
    · rw [if_pos h1]
      have j1 : (1024 : Int) < (k : Int) := by omega
      clear h1
      go_enter Try.func16, Try.ntmps16
      go_wp2_with fail
      refine HRf.out.mono ?_
      rintro e w1 ⟨rfl, hb⟩
      have HB1 := Lib.hid hb
      clear hb HRf
      go_wp2_with fail
      refine (HTb.out _ (HR.out.below HB1.out) (by trivial)).mono ?_
      rintro e w2 ⟨rfl, hb⟩
      have HB := Lib.hid (HB1.out.trans (hb.mono HB1.out.size))
      clear hb
      go_wp2_with fail
      go_ret2
      exact ⟨rfl, HB.out⟩
    · rw [if_neg h1]
      have j1 : ¬ (1024 : Int) < (k : Int) := by omega
      clear h1
      go_enter Try.func16, Try.ntmps16
      go_wp2_with fail
      refine HRf.out.mono ?_
      rintro e w1 ⟨rfl, hb⟩
      have HB1 := Lib.hid hb
      clear hb HRf
      go_wp2_with fail
      refine (HTb.out _ (HR.out.below HB1.out) (by trivial)).mono ?_
      rintro e w2 ⟨rfl, hb⟩
      have HB := Lib.hid (HB1.out.trans (hb.mono HB1.out.size))
      clear hb
      go_wp2_with fail
      go_ret2
      exact ⟨rfl, HB.out⟩
  · rw [if_pos h0]
    go_enter Try.func16, Try.ntmps16
    go_wp2_with fail
    refine HRf.out.mono ?_
    rintro e w1 ⟨rfl, hb⟩
    have HB1 := Lib.hid hb
    clear hb HRf
    go_wp2_with fail
    go_ret2
    exact ⟨rfl, HB1.out⟩
/-- why Build makes nothing -/
def whyF (xs : List L6) (base : Nat) : Int := if (countF xs).2 ≠ 0 then (countF xs).2 else if base % 4096 ≠ 0 then 33 else if winB base (countF xs).1 4294967296 = false then 34 else 0
set_option maxRecDepth 100000 in
set_option maxHeartbeats 4000000 in
theorem build_no {w : World} {v : Value} {xs : List L6} {base : Nat} (h : Lv w v xs) (hb : base ≤ 18446744073709551615) (hy : whyF xs base ≠ 0) : Calls Try.prog 17 #[v, .int .u64 (base : Int)] w fun e w' => e = .returned (.tuple #[.slice none 0 0, .int .i64 (whyF xs base)]) ∧ Below w.heap.size w w' := by
  have HC := Lib.hid (count_any h)
  have hk := countF_le xs
  unfold whyF at hy ⊢
  generalize countF xs = z at *
  obtain ⟨k, er⟩ := z
  simp only at hk HC hy ⊢
  have HW := Lib.hid fun (W : World) => pwithin_any (a := base) (p := k) (bound := 4294967296) hb (by omega) (by omega) W
  by_cases h0 : er = 0
  · subst h0
    rw [if_neg (by decide)] at hy ⊢
    by_cases h1 : base % 4096 ≠ 0
    · rw [if_pos h1] at hy ⊢
      have j1 : ¬ ((base : Int) % 4096 = 0) := by omega
      have j2 : ((base : Int) % 4096 != 0) = true := bne_iff_ne.2 j1
      clear h1 hy
      go_enter Try.func17, Try.ntmps17
      go_wp2_with fail
      refine HC.out.mono ?_
      rintro e w1 ⟨rfl, hb1⟩
      have HB1 := Lib.hid hb1
      clear hb1 HC
      go_wp2_with fail
      go_ret2
      exact ⟨rfl, HB1.out⟩
    · rw [if_neg h1] at hy ⊢
      have j1 : (base : Int) % 4096 = 0 := by omega
      have j2 : ((base : Int) % 4096 != 0) = false := by rw [j1]; rfl
      cases hw : winB base k 4294967296 with
      | true =>
        rw [if_neg (by rw [hw]; decide)] at hy
        exact absurd rfl hy
      | false =>
        rw [if_pos rfl]
        rw [hw] at HW
        clear h1 hy hw
        go_enter Try.func17, Try.ntmps17
        go_wp2_with fail
        refine HC.out.mono ?_
        rintro e w1 ⟨rfl, hb1⟩
        have HB1 := Lib.hid hb1
        clear hb1 HC
        go_wp2_with fail
        refine (HW.out _).mono ?_
        rintro e w2 ⟨rfl, hw⟩
        subst hw
        go_wp2_with fail
        go_ret2
        exact ⟨rfl, HB1.out⟩
  · rw [if_pos h0]
    clear hy
    go_enter Try.func17, Try.ntmps17
    go_wp2_with fail
    refine HC.out.mono ?_
    rintro e w1 ⟨rfl, hb1⟩
    have HB1 := Lib.hid hb1
    clear hb1 HC
    go_wp2_with fail
    go_ret2
    exact ⟨rfl, HB1.out⟩
end Go.Proofs.Ytgjamnhepbblhaa
