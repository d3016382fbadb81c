import Derived.Test.YtgjamnhepbblhaaPk06
/- Pages: Build of no rows, and of PagesNames' page. Own work. -/
namespace Go.Proofs.Ytgjamnhepbblhaa
open Go.RowKit Wk
set_option linter.unusedVariables false
theorem info_tab : (Try.prog.info? 40).map (fun i => (i.zero, i.size, i.bytes)) = some (some (.agg (tabV fun _ => 0)), 512, 4096) := by kernel_rfl
set_option maxRecDepth 100000 in
set_option maxHeartbeats 4000000 in
theorem build_nil {w : World} : Calls Try.prog 17 #[.slice none 0 0, .int .u64 4096] w fun e w' => ∃ G, e = .returned (.tuple #[.slice (some ⟨G, 0, none⟩) 1 1, .int .i64 0]) ∧ GAt w' G 1 (fun _ => 0) ∧ Below w.heap.size w w' := by
  have HW : Hid (∀ W, Calls Try.prog 33 #[.int .u64 4096, .int .i64 1, .int .u64 4294967296] W fun e w' => e = .returned (.bool true) ∧ w' = W) := fun W => pwithin_any (a := 4096) (p := 1) (bound := 4294967296) (by omega) (by omega) (by omega) W
  have HBg : Hid (∀ W G, Calls Try.prog 34 #[.slice (some ⟨G, 0, none⟩) 1 1, .int .u64 4096] W fun e w' => e = .returned (.pointer (some ⟨W.heap.size, 0, none⟩)) ∧ (∃ r, Bb w' W.heap.size (win G 0) (.slice none 0 0) (.slice none 0 0) r 8192 ∧ (0 ≠ 0 → r = .slice (some ⟨G, 512, none⟩) 0 0)) ∧ Below W.heap.size W w') := fun W G => begun_any (m := 0) (a := 4096) (by omega) (by omega)
  obtain ⟨ii, hii, hz0, hz1, hz2⟩ := info_parts info_tab
  go_enter Try.func17, Try.ntmps17
  go_wp2_with fail
  refine count_nil.mono ?_
  rintro e w1 ⟨rfl, hb⟩
  have HB1 := Lib.hid hb
  clear hb
  go_wp2_with fail
  refine (HW.out _).mono ?_
  rintro e w2 ⟨rfl, hw⟩
  have hw := hw.symm
  subst hw
  go_wp2_with (at_make; refine wpList_make_full _ rfl _ _ 48 rfl w1.heap.size 40 ii (.agg (tabV fun _ => 0)) 512 Try.underlying48 hii hz0 hz1 _ _ _ _ 1 rfl rfl (by omega) (by omega) (by rw [hz2]; omega) (by simp only [maxLen]; omega) (Nat.le_refl _) ?_)
  intro w3 hown hgrow
  have HG3 := Lib.hid (GAt.of_made (n := 1) hown)
  have hb3 : Below w1.heap.size w1 w3 := (Below.refl _ _).grown hgrow (Nat.le_refl _) (by simp)
  have HB3 := Lib.hid (HB1.out.trans (hb3.mono HB1.out.size))
  have HGw : Hid (w.heap.size ≤ w1.heap.size) := HB1.out.size
  clear hown hgrow hb3 hii hz0 hz1 hz2 HB1
  generalize w1.heap.size = G at *
  go_wp2_with fail
  refine (HBg.out _ _).mono ?_
  rintro e w4 ⟨rfl, ⟨r, hbb, hr⟩, hb4⟩
  have HG4 := Lib.hid (HG3.out.below hb4)
  have HB4 := Lib.hid (HB3.out.trans (hb4.mono HB3.out.size))
  have hne : w3.heap.size ≠ G := Nat.ne_of_gt HG3.out.lt
  have HS3 : Hid (w.heap.size ≤ w3.heap.size) := HB3.out.size
  have HBb := Lib.hid hbb
  have HHr := Lib.hid hr
  clear hbb hr hb4 HG3 HB3
  generalize w3.heap.size = B at *
  go_wp2_with fail
  refine wp_loop_rounds 1 ?_
  rw [rounds_succ]
  go_wp2_with fail
  go_ret2
  exact ⟨G, rfl, HG4.out, HB4.out⟩
set_option maxRecDepth 100000 in
set_option maxHeartbeats 4000000 in
theorem build_C {w : World} {R : Nat} (h : Lf1 w R) : Calls Try.prog 17 #[.slice (some ⟨R, 0, none⟩) 1 1, .int .u64 65536] w fun e w' => ∃ G, e = .returned (.tuple #[.slice (some ⟨G, 0, none⟩) 3 3, .int .i64 0]) ∧ GAt w' G 3 mC ∧ Below w.heap.size w w' := by
  have HW : Hid (∀ W, Calls Try.prog 33 #[.int .u64 65536, .int .i64 3, .int .u64 4294967296] W fun e w' => e = .returned (.bool true) ∧ w' = W) := fun W => pwithin_any (a := 65536) (p := 3) (bound := 4294967296) (by omega) (by omega) (by omega) W
  have HBg : Hid (∀ W G, Calls Try.prog 34 #[.slice (some ⟨G, 0, none⟩) 3 3, .int .u64 65536] W fun e w' => e = .returned (.pointer (some ⟨W.heap.size, 0, none⟩)) ∧ (∃ r, Bb w' W.heap.size (win G 0) (.slice none 0 0) (.slice none 0 0) r 69632 ∧ (2 ≠ 0 → r = .slice (some ⟨G, 512, none⟩) 2 2)) ∧ Below W.heap.size W w') := fun W G => begun_any (m := 2) (a := 65536) (by omega) (by omega)
  obtain ⟨ii, hii, hz0, hz1, hz2⟩ := info_parts info_tab
  have HR := Lib.hid h
  clear h
  go_enter Try.func17, Try.ntmps17
  go_wp2_with fail
  refine (count_C HR.out).mono ?_
  rintro e w1 ⟨rfl, hb⟩
  have HB1 := Lib.hid hb
  clear hb
  go_wp2_with fail
  refine (HW.out _).mono ?_
  rintro e w2 ⟨rfl, hw⟩
  have hw := hw.symm
  subst hw
  go_wp2_with (at_make; refine wpList_make_full _ rfl _ _ 48 rfl w1.heap.size 40 ii (.agg (tabV fun _ => 0)) 512 Try.underlying48 hii hz0 hz1 _ _ _ _ 3 rfl rfl (by omega) (by omega) (by rw [hz2]; omega) (by simp only [maxLen]; omega) (Nat.le_refl _) ?_)
  intro w3 hown hgrow
  have HG3 := Lib.hid (GAt.of_made (n := 3) hown)
  have hb3 : Below w1.heap.size w1 w3 := (Below.refl _ _).grown hgrow (Nat.le_refl _) (by simp)
  have HB3 := Lib.hid (HB1.out.trans (hb3.mono HB1.out.size))
  have HGw : Hid (w.heap.size ≤ w1.heap.size) := HB1.out.size
  have HR3 := Lib.hid (HR.out.below (HB1.out.trans (hb3.mono HB1.out.size)))
  clear hown hgrow hb3 hii hz0 hz1 hz2 HB1
  generalize w1.heap.size = G at *
  go_wp2_with fail
  refine (HBg.out _ _).mono ?_
  rintro e w4 ⟨rfl, ⟨r, hbb, hr⟩, hb4⟩
  have HG4 := Lib.hid (HG3.out.below hb4)
  have HB4 := Lib.hid (HB3.out.trans (hb4.mono HB3.out.size))
  have hne : w3.heap.size ≠ G := Nat.ne_of_gt HG3.out.lt
  have HS3 : Hid (w.heap.size ≤ w3.heap.size) := HB3.out.size
  have HBb := Lib.hid hbb
  have HHr := Lib.hid hr
  have HR4 := Lib.hid (HR3.out.below hb4)
  obtain ⟨c0, c1, c2, c3, c4, c5⟩ := HR4.out.2
  clear hbb hr hb4 HG3 HB3
  generalize w3.heap.size = B at *
  go_wp2_with fail
  refine wp_loop_rounds 2 ?_
  rw [rounds_succ]
  have hr2 := HHr.out (by omega)
  subst hr2
  have HB5 := Lib.hid (HBb.out.below (lf_below w4))
  have HG5 := Lib.hid (HG4.out.below (lf_below w4))
  have HB6 := Lib.hid (HB4.out.trans ((lf_below w4).mono HB4.out.size))
  go_wp2_with fail
  generalize (w4.alloc (.cells #[.int .u64 12288, .int .u64 32768, .int .i64 1, .bool false, .bool true, .bool false] 34)) = w5 at *
  clear c0 c1 c2 c3 c4 c5 HR4 HR3 HR HBb HG4 HB4 HHr
  refine (row_C HB5.out HG5.out hne).mono ?_
  rintro e w6 ⟨rfl, hg6, hk6⟩
  have HG6 := Lib.hid hg6
  have HB7 : Hid (Below w.heap.size w w6) := HB6.out.trans (hk6.below HB6.out.size (fun i _ e => e.elim (fun e => by rw [e]; exact HS3.out) (fun e => by rw [e]; exact HGw.out)))
  clear hg6 hk6
  go_wp2_with fail
  rw [rounds_succ]
  go_wp2_with fail
  go_ret2
  exact ⟨G, rfl, HG6.out, HB7.out⟩
end Go.Proofs.Ytgjamnhepbblhaa
