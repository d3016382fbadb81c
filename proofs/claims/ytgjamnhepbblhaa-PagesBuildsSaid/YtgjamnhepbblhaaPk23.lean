import Derived.Test.YtgjamnhepbblhaaPk05
import Derived.Test.YtgjamnhepbblhaaPk22
/- Pages: down, at any address (written by parts/gen_pgdwn.py). Own work. -/
namespace Go.Proofs.Ytgjamnhepbblhaa
open Go.RowKit Wk
set_option linter.unusedVariables false
set_option maxRecDepth 100000 in
set_option maxHeartbeats 4000000 in
theorem down1_P {w : World} {B G n a v p0 : Nat} {o1 o2 r : Value} {M : Nat → Nat} (h : Bb w B (win G 0) o1 o2 r a) (hG : GAt w G n M) (hn : 0 < n) (hne : B ≠ G) (hm0 : M p0 ≠ 0) (hp0 : thrF v 0 % 512 = p0) : Calls Try.prog 47 #[.pointer (some ⟨B, 0, none⟩), .int .u64 (v : Int), .int .i64 1] w fun e w' => e = .returned (.tuple #[]) ∧ (Bb w' B (win G 0) o1 o2 r a ∧ GAt w' G n M) ∧ Keeps (fun q => q = B ∨ q = G) w w' := by
  have hp05 : p0 < 512 := by rw [← hp0]; exact Nat.mod_lt _ (by decide)
  have jp0 : (p0 : Int) < 512 := by omega
  have HN0 : Hid (∀ W, Calls Try.prog 52 #[.int .u64 (v : Int), .int .i64 0] W fun e w' => e = .returned (.int .u64 (p0 : Int)) ∧ w' = W) := fun W => by have h5 := number_any v 0 (by omega) W; rw [hp0] at h5; exact h5
  have HB := Lib.hid h
  have HG := Lib.hid hG
  have HK : Hid (Keeps (fun q => q = B ∨ q = G) w w) := Keeps.refl _ w
  have HNN := Lib.hid hn
  clear h hG hp0
  go_enter Try.func47, Try.ntmps47
  go_wp2_with fail
  refine wp_loop_rounds 2 ?_
  obtain ⟨c0, c1, c2, c3, c4⟩ := HB.out.cells
  obtain ⟨z0, hz0⟩ : ∃ z, M (p0) = z := ⟨_, rfl⟩
  have g0 : w.cell? ⟨G, p0, none⟩ = some (.int .u64 (z0 : Int)) := by have h5 := HG.out.cell (p := p0) (by have := HNN.out; omega); rw [hz0] at h5; exact h5
  have jz0 : ¬ (z0 : Int) = 0 := by have h5 := hm0; rw [hz0] at h5; omega
  clear hz0
  unfold win at c0
  clear c1 c2 c3 c4
  rw [rounds_succ]
  go_wp2_with fail
  go_region_held3 (fun w' => w'.cell? ⟨B, 0, none⟩ = some (.slice (some ⟨G, 0, none⟩) 1 1) ∧ w'.cell? ⟨G, p0, none⟩ = some (.int .u64 (z0 : Int))) (go_keep) (first | (go_at_call 52; refine (HN0.out _).mono ?_; rintro e w9 ⟨rfl, hw9⟩; have hw9 := hw9.symm; subst hw9))
  all_goals
    have HBd0 := Lib.hid HB.out.drew
    have HGd0 := Lib.hid HG.out.drew
    have HKd0 := Lib.hid HK.out.drew
    clear HB HG HK
    generalize w.drew = v0 at *
    clear c0 g0
    go_wp2_with fail
    rw [rounds_succ]
    go_wp2_with fail
    go_end0
    exact ⟨rfl, ⟨HBd0.out, HGd0.out⟩, HKd0.out⟩
set_option maxRecDepth 100000 in
set_option maxHeartbeats 4000000 in
theorem down1_A {w : World} {B G n a v p0 k m : Nat} {o1 o2 : Value} {M : Nat → Nat} (h : Bb w B (win G 0) o1 o2 (.slice (some ⟨G, k * 512, none⟩) (m + 1) (m + 1)) a) (hG : GAt w G n M) (hn : 0 < n) (hne : B ≠ G) (hm0 : M p0 = 0) (hm : m + 1 ≤ 1024) (ha : a % 4096 = 0) (hal : a < 4294967296) (hp0 : thrF v 0 % 512 = p0) : Calls Try.prog 47 #[.pointer (some ⟨B, 0, none⟩), .int .u64 (v : Int), .int .i64 1] w fun e w' => e = .returned (.tuple #[]) ∧ ((∃ r, Bb w' B (win G 0) (win G (k * 512)) o2 r (a + 4096) ∧ (m ≠ 0 → r = .slice (some ⟨G, k * 512 + 512, none⟩) m m)) ∧ GAt w' G n (putM M p0 (a + 1))) ∧ Keeps (fun q => q = B ∨ q = G) w w' := by
  have hp05 : p0 < 512 := by rw [← hp0]; exact Nat.mod_lt _ (by decide)
  have jp0 : (p0 : Int) < 512 := by omega
  have HN0 : Hid (∀ W, Calls Try.prog 52 #[.int .u64 (v : Int), .int .i64 0] W fun e w' => e = .returned (.int .u64 (p0 : Int)) ∧ w' = W) := fun W => by have h5 := number_any v 0 (by omega) W; rw [hp0] at h5; exact h5
  have HS0 : Hid (∀ {W : World} {o1 o2 r : Value} {q : Nat}, Bb W B (win G 0) o1 o2 r q → GAt W G n M → Calls Try.prog 48 #[.pointer (some ⟨B, 0, none⟩), .int .u64 (v : Int), .int .i64 0, .agg #[.int .u64 ((a : Nat) : Int), .bool true, .bool false, .bool false, .bool false]] W fun e w' => e = .returned (.tuple #[]) ∧ GAt w' G n (putM M p0 (a + 1)) ∧ Keeps (fun q => q = G) W w') := fun {W o1 o2 r q} hb hg => by
    have h5 := set0 (k := 0) (v := v) (x := (a, true, false, false, false)) (rw' := a + 1) (by first | exact hb | (rw [Nat.zero_mul]; exact hb)) hg hn hne (by show a < _; omega) (mk_tab (by omega) (by omega) (by omega))
    rw [hp0, Nat.zero_mul, Nat.zero_add] at h5
    exact h5
  have HB := Lib.hid h
  have HG := Lib.hid hG
  have HK : Hid (Keeps (fun q => q = B ∨ q = G) w w) := Keeps.refl _ w
  have HNN := Lib.hid hn
  clear h hG hp0
  go_enter Try.func47, Try.ntmps47
  go_wp2_with fail
  refine wp_loop_rounds 2 ?_
  obtain ⟨c0, c1, c2, c3, c4⟩ := HB.out.cells
  have g0 : w.cell? ⟨G, p0, none⟩ = some (.int .u64 0) := by have h5 := HG.out.cell (p := p0) (by have := HNN.out; omega); rw [hm0] at h5; exact h5
  unfold win at c0
  clear c1 c2 c3 c4
  rw [rounds_succ]
  go_wp2_with fail
  go_region_held3 (fun w' => w'.cell? ⟨B, 0, none⟩ = some (.slice (some ⟨G, 0, none⟩) 1 1) ∧ w'.cell? ⟨G, p0, none⟩ = some (.int .u64 0)) (go_keep) (first | (go_at_call 52; refine (HN0.out _).mono ?_; rintro e w9 ⟨rfl, hw9⟩; have hw9 := hw9.symm; subst hw9))
  all_goals
    have HBd0 := Lib.hid HB.out.drew
    have HGd0 := Lib.hid HG.out.drew
    have HKd0 := Lib.hid HK.out.drew
    clear HB HG HK
    generalize w.drew = v0 at *
    clear c0 g0
    go_wp2_with fail
    refine (begin1 (m := m) HBd0.out (by omega) (by omega)).mono ?_
    rintro e u0 ⟨rfl, r0, hb2, hr0, hk2⟩
    have HB2 := Lib.hid hb2
    have HG2 := Lib.hid (HGd0.out.keeps hk2 (fun e => hne e.symm))
    have HK2 := Lib.hid (HKd0.out.trans hk2 (fun _ _ e => Or.inl e))
    have HR := Lib.hid hr0
    clear hr0
    clear hb2 hk2 HBd0 HGd0 HKd0
    go_wp2_with fail
    refine (HS0.out HB2.out HG2.out).mono ?_
    rintro e y0 ⟨rfl, hg3, hk3⟩
    have HB3 := Lib.hid (HB2.out.keeps hk3 hne)
    have HG3 := Lib.hid hg3
    have HK3 := Lib.hid (HK2.out.trans hk3 (fun _ _ e => Or.inr e))
    clear hg3 hk3 HB2 HG2 HK2
    go_wp2_with fail
    rw [rounds_succ]
    go_wp2_with fail
    go_end0
    exact ⟨rfl, ⟨⟨_, HB3.out, HR.out⟩, HG3.out⟩, HK3.out⟩
set_option maxRecDepth 100000 in
set_option maxHeartbeats 4000000 in
theorem down2_PP {w : World} {B G n a v p0 p1 k1 : Nat} {o2 r : Value} {M : Nat → Nat} (h : Bb w B (win G 0) (win G (k1 * 512)) o2 r a) (hG : GAt w G n M) (hn : 0 < n) (hk1 : k1 < n) (hne : B ≠ G) (hm0 : M p0 ≠ 0) (hm1 : M (k1 * 512 + p1) ≠ 0) (hp0 : thrF v 0 % 512 = p0) (hp1 : thrF v 1 % 512 = p1) : Calls Try.prog 47 #[.pointer (some ⟨B, 0, none⟩), .int .u64 (v : Int), .int .i64 2] w fun e w' => e = .returned (.tuple #[]) ∧ (Bb w' B (win G 0) (win G (k1 * 512)) o2 r a ∧ GAt w' G n M) ∧ Keeps (fun q => q = B ∨ q = G) w w' := by
  have hp05 : p0 < 512 := by rw [← hp0]; exact Nat.mod_lt _ (by decide)
  have jp0 : (p0 : Int) < 512 := by omega
  have HN0 : Hid (∀ W, Calls Try.prog 52 #[.int .u64 (v : Int), .int .i64 0] W fun e w' => e = .returned (.int .u64 (p0 : Int)) ∧ w' = W) := fun W => by have h5 := number_any v 0 (by omega) W; rw [hp0] at h5; exact h5
  have hp15 : p1 < 512 := by rw [← hp1]; exact Nat.mod_lt _ (by decide)
  have jp1 : (p1 : Int) < 512 := by omega
  have HN1 : Hid (∀ W, Calls Try.prog 52 #[.int .u64 (v : Int), .int .i64 1] W fun e w' => e = .returned (.int .u64 (p1 : Int)) ∧ w' = W) := fun W => by have h5 := number_any v 1 (by omega) W; rw [hp1] at h5; exact h5
  have HB := Lib.hid h
  have HG := Lib.hid hG
  have HK : Hid (Keeps (fun q => q = B ∨ q = G) w w) := Keeps.refl _ w
  have HNN := Lib.hid hn
  have HK1 := Lib.hid hk1
  clear h hG hp0 hp1
  go_enter Try.func47, Try.ntmps47
  go_wp2_with fail
  refine wp_loop_rounds 3 ?_
  obtain ⟨c0, c1, c2, c3, c4⟩ := HB.out.cells
  obtain ⟨z0, hz0⟩ : ∃ z, M (p0) = z := ⟨_, rfl⟩
  have g0 : w.cell? ⟨G, p0, none⟩ = some (.int .u64 (z0 : Int)) := by have h5 := HG.out.cell (p := p0) (by have := HNN.out; have := HK1.out; omega); rw [hz0] at h5; exact h5
  have jz0 : ¬ (z0 : Int) = 0 := by have h5 := hm0; rw [hz0] at h5; omega
  clear hz0
  unfold win at c0
  clear c1 c2 c3 c4
  rw [rounds_succ]
  go_wp2_with fail
  go_region_held3 (fun w' => w'.cell? ⟨B, 0, none⟩ = some (.slice (some ⟨G, 0, none⟩) 1 1) ∧ w'.cell? ⟨G, p0, none⟩ = some (.int .u64 (z0 : Int))) (go_keep) (first | (go_at_call 52; refine (HN0.out _).mono ?_; rintro e w9 ⟨rfl, hw9⟩; have hw9 := hw9.symm; subst hw9))
  all_goals
    have HBd0 := Lib.hid HB.out.drew
    have HGd0 := Lib.hid HG.out.drew
    have HKd0 := Lib.hid HK.out.drew
    clear HB HG HK
    generalize w.drew = v0 at *
    clear c0 g0
    go_wp2_with fail
    obtain ⟨c0, c1, c2, c3, c4⟩ := HBd0.out.cells
    obtain ⟨z1, hz1⟩ : ∃ z, M (k1 * 512 + p1) = z := ⟨_, rfl⟩
    have g0 : v0.cell? ⟨G, k1 * 512 + p1, none⟩ = some (.int .u64 (z1 : Int)) := by have h5 := HGd0.out.cell (p := k1 * 512 + p1) (by have := HNN.out; have := HK1.out; omega); rw [hz1] at h5; exact h5
    have jz1 : ¬ (z1 : Int) = 0 := by have h5 := hm1; rw [hz1] at h5; omega
    clear hz1
    unfold win at c1
    clear c0 c2 c3 c4
    rw [rounds_succ]
    go_wp2_with fail
    go_region_held3 (fun w' => w'.cell? ⟨B, 1, none⟩ = some (.slice (some ⟨G, k1 * 512, none⟩) 1 1) ∧ w'.cell? ⟨G, k1 * 512 + p1, none⟩ = some (.int .u64 (z1 : Int))) (go_keep) (first | (go_at_call 52; refine (HN1.out _).mono ?_; rintro e w9 ⟨rfl, hw9⟩; have hw9 := hw9.symm; subst hw9))
    all_goals
      have HBd1 := Lib.hid HBd0.out.drew
      have HGd1 := Lib.hid HGd0.out.drew
      have HKd1 := Lib.hid HKd0.out.drew
      clear HBd0 HGd0 HKd0
      generalize v0.drew = v1 at *
      clear c1 g0
      go_wp2_with fail
      rw [rounds_succ]
      go_wp2_with fail
      go_end0
      exact ⟨rfl, ⟨HBd1.out, HGd1.out⟩, HKd1.out⟩
set_option maxRecDepth 100000 in
set_option maxHeartbeats 4000000 in
theorem down2_PA {w : World} {B G n a v p0 p1 k1 k m : Nat} {o2 : Value} {M : Nat → Nat} (h : Bb w B (win G 0) (win G (k1 * 512)) o2 (.slice (some ⟨G, k * 512, none⟩) (m + 1) (m + 1)) a) (hG : GAt w G n M) (hn : 0 < n) (hk1 : k1 < n) (hne : B ≠ G) (hm0 : M p0 ≠ 0) (hm1 : M (k1 * 512 + p1) = 0) (hm : m + 1 ≤ 1024) (ha : a % 4096 = 0) (hal : a < 4294967296) (hp0 : thrF v 0 % 512 = p0) (hp1 : thrF v 1 % 512 = p1) : Calls Try.prog 47 #[.pointer (some ⟨B, 0, none⟩), .int .u64 (v : Int), .int .i64 2] w fun e w' => e = .returned (.tuple #[]) ∧ ((∃ r, Bb w' B (win G 0) (win G (k1 * 512)) (win G (k * 512)) r (a + 4096) ∧ (m ≠ 0 → r = .slice (some ⟨G, k * 512 + 512, none⟩) m m)) ∧ GAt w' G n (putM M (k1 * 512 + p1) (a + 1))) ∧ Keeps (fun q => q = B ∨ q = G) w w' := by
  have hp05 : p0 < 512 := by rw [← hp0]; exact Nat.mod_lt _ (by decide)
  have jp0 : (p0 : Int) < 512 := by omega
  have HN0 : Hid (∀ W, Calls Try.prog 52 #[.int .u64 (v : Int), .int .i64 0] W fun e w' => e = .returned (.int .u64 (p0 : Int)) ∧ w' = W) := fun W => by have h5 := number_any v 0 (by omega) W; rw [hp0] at h5; exact h5
  have hp15 : p1 < 512 := by rw [← hp1]; exact Nat.mod_lt _ (by decide)
  have jp1 : (p1 : Int) < 512 := by omega
  have HN1 : Hid (∀ W, Calls Try.prog 52 #[.int .u64 (v : Int), .int .i64 1] W fun e w' => e = .returned (.int .u64 (p1 : Int)) ∧ w' = W) := fun W => by have h5 := number_any v 1 (by omega) W; rw [hp1] at h5; exact h5
  have HS1 : Hid (∀ {W : World} {o0 o2 r : Value} {q : Nat}, Bb W B o0 (win G (k1 * 512)) o2 r q → GAt W G n M → Calls Try.prog 48 #[.pointer (some ⟨B, 0, none⟩), .int .u64 (v : Int), .int .i64 1, .agg #[.int .u64 ((a : Nat) : Int), .bool true, .bool false, .bool false, .bool false]] W fun e w' => e = .returned (.tuple #[]) ∧ GAt w' G n (putM M (k1 * 512 + p1) (a + 1)) ∧ Keeps (fun q => q = G) W w') := fun {W o1 o2 r q} hb hg => by
    have h5 := set1 (k := k1) (v := v) (x := (a, true, false, false, false)) (rw' := a + 1) (by first | exact hb | (rw [Nat.zero_mul]; exact hb)) hg hk1 hne (by show a < _; omega) (mk_tab (by omega) (by omega) (by omega))
    rw [hp1] at h5
    exact h5
  have HB := Lib.hid h
  have HG := Lib.hid hG
  have HK : Hid (Keeps (fun q => q = B ∨ q = G) w w) := Keeps.refl _ w
  have HNN := Lib.hid hn
  have HK1 := Lib.hid hk1
  clear h hG hp0 hp1
  go_enter Try.func47, Try.ntmps47
  go_wp2_with fail
  refine wp_loop_rounds 3 ?_
  obtain ⟨c0, c1, c2, c3, c4⟩ := HB.out.cells
  obtain ⟨z0, hz0⟩ : ∃ z, M (p0) = z := ⟨_, rfl⟩
  have g0 : w.cell? ⟨G, p0, none⟩ = some (.int .u64 (z0 : Int)) := by have h5 := HG.out.cell (p := p0) (by have := HNN.out; have := HK1.out; omega); rw [hz0] at h5; exact h5
  have jz0 : ¬ (z0 : Int) = 0 := by have h5 := hm0; rw [hz0] at h5; omega
  clear hz0
  unfold win at c0
  clear c1 c2 c3 c4
  rw [rounds_succ]
  go_wp2_with fail
  go_region_held3 (fun w' => w'.cell? ⟨B, 0, none⟩ = some (.slice (some ⟨G, 0, none⟩) 1 1) ∧ w'.cell? ⟨G, p0, none⟩ = some (.int .u64 (z0 : Int))) (go_keep) (first | (go_at_call 52; refine (HN0.out _).mono ?_; rintro e w9 ⟨rfl, hw9⟩; have hw9 := hw9.symm; subst hw9))
  all_goals
    have HBd0 := Lib.hid HB.out.drew
    have HGd0 := Lib.hid HG.out.drew
    have HKd0 := Lib.hid HK.out.drew
    clear HB HG HK
    generalize w.drew = v0 at *
    clear c0 g0
    go_wp2_with fail
    obtain ⟨c0, c1, c2, c3, c4⟩ := HBd0.out.cells
    have g0 : v0.cell? ⟨G, k1 * 512 + p1, none⟩ = some (.int .u64 0) := by have h5 := HGd0.out.cell (p := k1 * 512 + p1) (by have := HNN.out; have := HK1.out; omega); rw [hm1] at h5; exact h5
    unfold win at c1
    clear c0 c2 c3 c4
    rw [rounds_succ]
    go_wp2_with fail
    go_region_held3 (fun w' => w'.cell? ⟨B, 1, none⟩ = some (.slice (some ⟨G, k1 * 512, none⟩) 1 1) ∧ w'.cell? ⟨G, k1 * 512 + p1, none⟩ = some (.int .u64 0)) (go_keep) (first | (go_at_call 52; refine (HN1.out _).mono ?_; rintro e w9 ⟨rfl, hw9⟩; have hw9 := hw9.symm; subst hw9))
    all_goals
      have HBd1 := Lib.hid HBd0.out.drew
      have HGd1 := Lib.hid HGd0.out.drew
      have HKd1 := Lib.hid HKd0.out.drew
      clear HBd0 HGd0 HKd0
      generalize v0.drew = v1 at *
      clear c1 g0
      go_wp2_with fail
      refine (begin2 (m := m) HBd1.out (by omega) (by omega)).mono ?_
      rintro e u1 ⟨rfl, r1, hb2, hr1, hk2⟩
      have HB2 := Lib.hid hb2
      have HG2 := Lib.hid (HGd1.out.keeps hk2 (fun e => hne e.symm))
      have HK2 := Lib.hid (HKd1.out.trans hk2 (fun _ _ e => Or.inl e))
      have HR := Lib.hid hr1
      clear hr1
      clear hb2 hk2 HBd1 HGd1 HKd1
      go_wp2_with fail
      refine (HS1.out HB2.out HG2.out).mono ?_
      rintro e y1 ⟨rfl, hg3, hk3⟩
      have HB3 := Lib.hid (HB2.out.keeps hk3 hne)
      have HG3 := Lib.hid hg3
      have HK3 := Lib.hid (HK2.out.trans hk3 (fun _ _ e => Or.inr e))
      clear hg3 hk3 HB2 HG2 HK2
      go_wp2_with fail
      rw [rounds_succ]
      go_wp2_with fail
      go_end0
      exact ⟨rfl, ⟨⟨_, HB3.out, HR.out⟩, HG3.out⟩, HK3.out⟩
set_option maxRecDepth 100000 in
set_option maxHeartbeats 4000000 in
theorem down2_AA {w : World} {B G n a v p0 p1 k m : Nat} {o1 o2 : Value} {M : Nat → Nat} (h : Bb w B (win G 0) o1 o2 (.slice (some ⟨G, k * 512, none⟩) (m + 1 + 1) (m + 1 + 1)) a) (hG : GAt w G n M) (hn : 0 < n) (hk1 : k < n) (hne : B ≠ G) (hm0 : M p0 = 0) (hm1 : putM M p0 (a + 1) (k * 512 + p1) = 0) (hm : m + 1 + 1 ≤ 1024) (ha : a % 4096 = 0) (hal : a + 4096 < 4294967296) (hp0 : thrF v 0 % 512 = p0) (hp1 : thrF v 1 % 512 = p1) : Calls Try.prog 47 #[.pointer (some ⟨B, 0, none⟩), .int .u64 (v : Int), .int .i64 2] w fun e w' => e = .returned (.tuple #[]) ∧ ((∃ r, Bb w' B (win G 0) (win G (k * 512)) (win G (k * 512 + 512)) r (a + 4096 + 4096) ∧ (m ≠ 0 → r = .slice (some ⟨G, k * 512 + 512 + 512, none⟩) m m)) ∧ GAt w' G n (putM (putM M p0 (a + 1)) (k * 512 + p1) (a + 4096 + 1))) ∧ Keeps (fun q => q = B ∨ q = G) w w' := by
  have hp05 : p0 < 512 := by rw [← hp0]; exact Nat.mod_lt _ (by decide)
  have jp0 : (p0 : Int) < 512 := by omega
  have HN0 : Hid (∀ W, Calls Try.prog 52 #[.int .u64 (v : Int), .int .i64 0] W fun e w' => e = .returned (.int .u64 (p0 : Int)) ∧ w' = W) := fun W => by have h5 := number_any v 0 (by omega) W; rw [hp0] at h5; exact h5
  have hp15 : p1 < 512 := by rw [← hp1]; exact Nat.mod_lt _ (by decide)
  have jp1 : (p1 : Int) < 512 := by omega
  have HN1 : Hid (∀ W, Calls Try.prog 52 #[.int .u64 (v : Int), .int .i64 1] W fun e w' => e = .returned (.int .u64 (p1 : Int)) ∧ w' = W) := fun W => by have h5 := number_any v 1 (by omega) W; rw [hp1] at h5; exact h5
  have HS0 : Hid (∀ {W : World} {o1 o2 r : Value} {q : Nat}, Bb W B (win G 0) o1 o2 r q → GAt W G n M → Calls Try.prog 48 #[.pointer (some ⟨B, 0, none⟩), .int .u64 (v : Int), .int .i64 0, .agg #[.int .u64 ((a : Nat) : Int), .bool true, .bool false, .bool false, .bool false]] W fun e w' => e = .returned (.tuple #[]) ∧ GAt w' G n (putM M p0 (a + 1)) ∧ Keeps (fun q => q = G) W w') := fun {W o1 o2 r q} hb hg => by
    have h5 := set0 (k := 0) (v := v) (x := (a, true, false, false, false)) (rw' := a + 1) (by first | exact hb | (rw [Nat.zero_mul]; exact hb)) hg hn hne (by show a < _; omega) (mk_tab (by omega) (by omega) (by omega))
    rw [hp0, Nat.zero_mul, Nat.zero_add] at h5
    exact h5
  have HS1 : Hid (∀ {W : World} {o0 o2 r : Value} {q : Nat}, Bb W B o0 (win G (k * 512)) o2 r q → GAt W G n (putM M p0 (a + 1)) → Calls Try.prog 48 #[.pointer (some ⟨B, 0, none⟩), .int .u64 (v : Int), .int .i64 1, .agg #[.int .u64 (((a + 4096) : Nat) : Int), .bool true, .bool false, .bool false, .bool false]] W fun e w' => e = .returned (.tuple #[]) ∧ GAt w' G n (putM (putM M p0 (a + 1)) (k * 512 + p1) (a + 4096 + 1)) ∧ Keeps (fun q => q = G) W w') := fun {W o1 o2 r q} hb hg => by
    have h5 := set1 (k := k) (v := v) (x := ((a + 4096), true, false, false, false)) (rw' := (a + 4096) + 1) (by first | exact hb | (rw [Nat.zero_mul]; exact hb)) hg hk1 hne (by show (a + 4096) < _; omega) (mk_tab (by omega) (by omega) (by omega))
    rw [hp1] at h5
    exact h5
  have HB := Lib.hid h
  have HG := Lib.hid hG
  have HK : Hid (Keeps (fun q => q = B ∨ q = G) w w) := Keeps.refl _ w
  have HNN := Lib.hid hn
  have HK1 := Lib.hid hk1
  clear h hG hp0 hp1
  go_enter Try.func47, Try.ntmps47
  go_wp2_with fail
  refine wp_loop_rounds 3 ?_
  obtain ⟨c0, c1, c2, c3, c4⟩ := HB.out.cells
  have g0 : w.cell? ⟨G, p0, none⟩ = some (.int .u64 0) := by have h5 := HG.out.cell (p := p0) (by have := HNN.out; have := HK1.out; omega); rw [hm0] at h5; exact h5
  unfold win at c0
  clear c1 c2 c3 c4
  rw [rounds_succ]
  go_wp2_with fail
  go_region_held3 (fun w' => w'.cell? ⟨B, 0, none⟩ = some (.slice (some ⟨G, 0, none⟩) 1 1) ∧ w'.cell? ⟨G, p0, none⟩ = some (.int .u64 0)) (go_keep) (first | (go_at_call 52; refine (HN0.out _).mono ?_; rintro e w9 ⟨rfl, hw9⟩; have hw9 := hw9.symm; subst hw9))
  all_goals
    have HBd0 := Lib.hid HB.out.drew
    have HGd0 := Lib.hid HG.out.drew
    have HKd0 := Lib.hid HK.out.drew
    clear HB HG HK
    generalize w.drew = v0 at *
    clear c0 g0
    go_wp2_with fail
    refine (begin1 (m := m + 1) HBd0.out (by omega) (by omega)).mono ?_
    rintro e u0 ⟨rfl, r0, hb2, hr0, hk2⟩
    have hr0 := hr0 (by omega)
    subst hr0
    have HB2 := Lib.hid hb2
    have HG2 := Lib.hid (HGd0.out.keeps hk2 (fun e => hne e.symm))
    have HK2 := Lib.hid (HKd0.out.trans hk2 (fun _ _ e => Or.inl e))
    clear hb2 hk2 HBd0 HGd0 HKd0
    go_wp2_with fail
    refine (HS0.out HB2.out HG2.out).mono ?_
    rintro e y0 ⟨rfl, hg3, hk3⟩
    have HB3 := Lib.hid (HB2.out.keeps hk3 hne)
    have HG3 := Lib.hid hg3
    have HK3 := Lib.hid (HK2.out.trans hk3 (fun _ _ e => Or.inr e))
    clear hg3 hk3 HB2 HG2 HK2
    go_wp2_with fail
    obtain ⟨c0, c1, c2, c3, c4⟩ := HB3.out.cells
    have g0 : y0.cell? ⟨G, k * 512 + p1, none⟩ = some (.int .u64 0) := by have h5 := HG3.out.cell (p := k * 512 + p1) (by have := HNN.out; have := HK1.out; omega); rw [hm1] at h5; exact h5
    unfold win at c1
    clear c0 c2 c3 c4
    rw [rounds_succ]
    go_wp2_with fail
    go_region_held3 (fun w' => w'.cell? ⟨B, 1, none⟩ = some (.slice (some ⟨G, k * 512, none⟩) 1 1) ∧ w'.cell? ⟨G, k * 512 + p1, none⟩ = some (.int .u64 0)) (go_keep) (first | (go_at_call 52; refine (HN1.out _).mono ?_; rintro e w9 ⟨rfl, hw9⟩; have hw9 := hw9.symm; subst hw9))
    all_goals
      have HBd1 := Lib.hid HB3.out.drew
      have HGd1 := Lib.hid HG3.out.drew
      have HKd1 := Lib.hid HK3.out.drew
      clear HB3 HG3 HK3
      generalize y0.drew = v1 at *
      clear c1 g0
      go_wp2_with fail
      refine (begin2 (m := m) HBd1.out (by omega) (by omega)).mono ?_
      rintro e u1 ⟨rfl, r1, hb2, hr1, hk2⟩
      have HB2 := Lib.hid hb2
      have HG2 := Lib.hid (HGd1.out.keeps hk2 (fun e => hne e.symm))
      have HK2 := Lib.hid (HKd1.out.trans hk2 (fun _ _ e => Or.inl e))
      have HR := Lib.hid hr1
      clear hr1
      clear hb2 hk2 HBd1 HGd1 HKd1
      go_wp2_with fail
      refine (HS1.out HB2.out HG2.out).mono ?_
      rintro e y1 ⟨rfl, hg3, hk3⟩
      have HB3 := Lib.hid (HB2.out.keeps hk3 hne)
      have HG3 := Lib.hid hg3
      have HK3 := Lib.hid (HK2.out.trans hk3 (fun _ _ e => Or.inr e))
      clear hg3 hk3 HB2 HG2 HK2
      go_wp2_with fail
      rw [rounds_succ]
      go_wp2_with fail
      go_end0
      exact ⟨rfl, ⟨⟨_, HB3.out, HR.out⟩, HG3.out⟩, HK3.out⟩
end Go.Proofs.Ytgjamnhepbblhaa
