/- Pages: down, row, begun at the page of PagesNames. Own work. -/
import Derived.Test.YtjfpdphedpnelaaPgSet
import Derived.Handy
namespace Go.Proofs.Ytjfpdphedpnelaa
open Go.RowKit Wk
set_option linter.unusedVariables false
theorem Bb.drew {w : World} {B : Nat} {o0 o1 o2 r : Value} {a : Nat} (h : Bb w B o0 o1 o2 r a) : Bb w.drew B o0 o1 o2 r a := h
theorem GAt.drew {w : World} {G n : Nat} {M : Nat → Nat} (h : GAt w G n M) : GAt w.drew G n M := h
/-- the list of the tables of PagesNames' page, ahead of its leaf -/
def mA : Nat → Nat := putM (fun _ => 0) 0 69633
def mB : Nat → Nat := putM mA 512 73729
def mC : Nat → Nat := putM mB 1027 32771
set_option maxRecDepth 100000 in
set_option maxHeartbeats 4000000 in
theorem down_C {w : World} {B G : Nat} {o1 o2 : Value} (h : Bb w B (win G 0) o1 o2 (.slice (some ⟨G, 512, none⟩) 2 2) 69632) (hG : GAt w G 3 (fun _ => 0)) (hne : B ≠ G) : Calls Try.prog 46 #[.pointer (some ⟨B, 0, none⟩), .int .u64 12288, .int .i64 2] w fun e w' => e = .returned (.tuple #[]) ∧ (∃ r, Bb w' B (win G 0) (win G 512) (win G 1024) r 77824) ∧ GAt w' G 3 mB ∧ Keeps (fun q => q = B ∨ q = G) w w' := by
  have HN0 : Hid (∀ W, Calls Try.prog 56 #[.int .u64 12288, .int .i64 0] W fun e w' => e = .returned (.int .u64 0) ∧ w' = W) := fun W => number_any 12288 0 (by omega) W
  have HN1 : Hid (∀ W, Calls Try.prog 56 #[.int .u64 12288, .int .i64 1] W fun e w' => e = .returned (.int .u64 0) ∧ w' = W) := fun W => number_any 12288 1 (by omega) W
  have HS0 : Hid (∀ {W : World} {o1 o2 r : Value} {a : Nat}, Bb W B (win G 0) o1 o2 r a → GAt W G 3 (fun _ => 0) → Calls Try.prog 47 #[.pointer (some ⟨B, 0, none⟩), .int .u64 12288, .int .i64 0, .agg #[.int .u64 69632, .bool true, .bool false, .bool false, .bool false]] W fun e w' => e = .returned (.tuple #[]) ∧ GAt w' G 3 mA ∧ Keeps (fun q => q = G) W w') := fun hb hg => set0 (k := 0) (v := 12288) (x := (69632, true, false, false, false)) (rw' := 69633) hb hg (by omega) hne (by decide) (by decide)
  have HS1 : Hid (∀ {W : World} {o0 o2 r : Value} {a : Nat}, Bb W B o0 (win G 512) o2 r a → GAt W G 3 mA → Calls Try.prog 47 #[.pointer (some ⟨B, 0, none⟩), .int .u64 12288, .int .i64 1, .agg #[.int .u64 73728, .bool true, .bool false, .bool false, .bool false]] W fun e w' => e = .returned (.tuple #[]) ∧ GAt w' G 3 mB ∧ Keeps (fun q => q = G) W w') := fun hb hg => set1 (k := 1) (v := 12288) (x := (73728, true, false, false, false)) (rw' := 73729) hb hg (by omega) hne (by decide) (by decide)
  have HB := Lib.hid h
  have HG := Lib.hid hG
  obtain ⟨c0, c1, c2, c3, c4⟩ := h.cells
  have g0 := hG.cell (p := 0) (by omega)
  unfold win at c0
  clear h hG c1 c2 c3 c4
  go_enter Try.func46, Try.ntmps46
  go_wp2_with fail
  refine wp_loop_rounds 3 ?_
  rw [rounds_succ]
  go_wp2_with fail
  go_region_held3 (fun w' => w'.cell? ⟨B, 0, none⟩ = some (.slice (some ⟨G, 0, none⟩) 1 1) ∧ w'.cell? ⟨G, 0, none⟩ = some (.int .u64 0)) (go_keep) (first | (go_at_call 56; refine (HN0.out _).mono ?_; rintro e w9 ⟨rfl, hw9⟩; have hw9 := hw9.symm; subst hw9))
  all_goals
    have hd : Bb w.drew B (win G 0) o1 o2 (.slice (some ⟨G, 512, none⟩) 2 2) 69632 := HB.out
    have hd2 : GAt w.drew G 3 (fun _ => 0) := HG.out
    have hk0 : Keeps (fun q => q = B ∨ q = G) w w.drew := (Keeps.refl _ w).drew
    have HB1 := Lib.hid hd
    have HG1 := Lib.hid hd2
    have HK1 := Lib.hid hk0
    clear hd hd2 hk0
    generalize w.drew = w1 at *
    clear c0 g0
    go_wp2_with fail
    refine (begin1 (m := 1) HB1.out (by omega) (by omega)).mono ?_
    rintro e w2 ⟨rfl, r, hb2, hr, hk2⟩
    have hr := hr (by omega)
    subst hr
    have HB2 := Lib.hid hb2
    have HG2 := Lib.hid (HG1.out.keeps hk2 (fun e => hne e.symm))
    have HK2 := Lib.hid (HK1.out.trans hk2 (fun _ _ e => Or.inl e))
    clear hb2 hk2 HB1 HG1 HK1
    go_wp2_with fail
    refine (HS0.out HB2.out HG2.out).mono ?_
    rintro e w3 ⟨rfl, hg3, hk3⟩
    have HB3 := Lib.hid (HB2.out.keeps hk3 hne)
    have HG3 := Lib.hid hg3
    have HK3 := Lib.hid (HK2.out.trans hk3 (fun _ _ e => Or.inr e))
    clear hg3 hk3 HB2 HG2 HK2
    obtain ⟨c0, c1, c2, c3, c4⟩ := HB3.out.cells
    have g0 : w3.cell? ⟨G, 512, none⟩ = some (.int .u64 0) := HG3.out.cell (p := 512) (by omega)
    unfold win at c1
    clear c0 c2 c3 c4
    go_wp2_with fail
    rw [rounds_succ]
    go_wp2_with fail
    go_region_held3 (fun w' => w'.cell? ⟨B, 1, none⟩ = some (.slice (some ⟨G, 512, none⟩) 1 1) ∧ w'.cell? ⟨G, 512, none⟩ = some (.int .u64 0)) (go_keep) (first | (go_at_call 56; refine (HN1.out _).mono ?_; rintro e w9 ⟨rfl, hw9⟩; have hw9 := hw9.symm; subst hw9))
    all_goals
      have hd : Bb w3.drew B (win G 0) (win G 512) o2 (.slice (some ⟨G, 1024, none⟩) 1 1) 73728 := HB3.out
      have hd2 : GAt w3.drew G 3 mA := HG3.out
      have hk0 : Keeps (fun q => q = B ∨ q = G) w w3.drew := HK3.out.drew
      have HB1 := Lib.hid hd
      have HG1 := Lib.hid hd2
      have HK1 := Lib.hid hk0
      clear hd hd2 hk0 HB3 HG3 HK3
      generalize w3.drew = w4 at *
      clear c1 g0
      go_wp2_with fail
      refine (begin2 (m := 0) HB1.out (by omega) (by omega)).mono ?_
      rintro e w5 ⟨rfl, r, hb2, _, hk2⟩
      have HB2 := Lib.hid hb2
      have HG2 := Lib.hid (HG1.out.keeps hk2 (fun e => hne e.symm))
      have HK2 := Lib.hid (HK1.out.trans hk2 (fun _ _ e => Or.inl e))
      clear hb2 hk2 HB1 HG1 HK1
      go_wp2_with fail
      refine (HS1.out HB2.out HG2.out).mono ?_
      rintro e w6 ⟨rfl, hg3, hk3⟩
      have HB3 := Lib.hid (HB2.out.keeps hk3 hne)
      have HG3 := Lib.hid hg3
      have HK3 := Lib.hid (HK2.out.trans hk3 (fun _ _ e => Or.inr e))
      clear hg3 hk3 HB2 HG2 HK2
      go_wp2_with fail
      rw [rounds_succ]
      go_wp2_with fail
      go_end0
      exact ⟨rfl, ⟨r, HB3.out⟩, HG3.out, HK3.out⟩
end Go.Proofs.Ytjfpdphedpnelaa
