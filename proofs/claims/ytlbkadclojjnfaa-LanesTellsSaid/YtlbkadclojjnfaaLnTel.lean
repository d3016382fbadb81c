/- LanesTells, walked. Own work. -/
import Derived.Test.YtlbkadclojjnfaaLnSha
import Derived.Test.YtlbkadclojjnfaaLnKnown
namespace Go.Proofs.Ytlbkadclojjnfaa
open Go.RowKit
set_option maxRecDepth 100000 in
set_option maxHeartbeats 4000000 in
theorem lanesTells_walk {w : World} {v : Value} {xs : List S3} {o : Int} {s : ByteArray} (hv : Rs w v xs) (hp : xs.length ≤ 4398046511000) :
    Calls Try.prog 5 #[v, .int .i64 o, .string s] w fun e w' => e = .returned (.bool true) ∧ Below w.heap.size w w' := by
  have HV := Lib.hid hv
  have HRo := Lib.hid (roomy3_any hv hp)
  have hb3 := hv
  obtain ⟨ao, cap, rfl, h1, h2, h3, _⟩ := hb3
  unfold maxLen at h2
  obtain ⟨n, hn⟩ : ∃ n, xs.length = n := ⟨_, rfl⟩
  have HN := Lib.hid hn
  have HP := Lib.hid (fun W g (h : Row3 W g (room3 xs)) => by
    have := h.rd (n := xs.length) (c := xs.length + 80) (by rw [room3_len]; omega) (by omega) (by unfold maxLen; omega) (by rw [room3, List.take_left]; exact h3)
    rw [room3, List.take_left] at this
    exact this)
  obtain ⟨r, hr1, hr2, hr3⟩ := shares xs s hp h3
  obtain ⟨S, hS⟩ : ∃ S, schedF o xs = S := ⟨_, rfl⟩
  obtain ⟨B, hB⟩ : ∃ B, budF s 0 xs = B := ⟨_, rfl⟩
  have HSc := Lib.hid (fun W v (h : Rs W v xs) => hS ▸ sched_any (o := o) h hp)
  have HRs := Lib.hid (fun W v (h : Rs W v xs) => hS ▸ rSched_any (o := o) h hp)
  have HBu := Lib.hid (fun W v (h : Rs W v xs) => hB ▸ budget_any (s := s) h hp)
  have HRb := Lib.hid (fun W v (h : Rs W v xs) => hB ▸ rBudget_any (s := s) h hp)
  have HSh := Lib.hid hr2
  have HRh := Lib.hid hr3
  have HIn := Lib.hid (fun W g (hr : Row3 W g (room3 xs)) v (h : Rs W v xs) => intact3_any hr h hp)
  rw [hn] at h1 hp ⊢ HV HRo HP HIn
  clear hv h3 hr2 hr3 hS hB hn
  obtain ⟨S1, S2⟩ := S
  go_enter Try.func5, Try.ntmps5
  go_wp2_with fail
  refine HRo.out.mono ?_
  rintro e w1 ⟨g, hg, rfl, hr1', hb1⟩
  have HR1 := Lib.hid hr1'
  have HB1 := Lib.hid hb1
  have HS1 := Lib.hid (HSc.out w1 _ (HP.out w1 g hr1'))
  clear hr1' hb1 HRo
  go_wp2_with fail
  refine HS1.out.mono ?_
  rintro e w2 ⟨rfl, hb2⟩
  have HR2 := Lib.hid (HR1.out.below hb2)
  have HB2 : Hid (Below w.heap.size w w2) := HB1.out.trans (hb2.mono HB1.out.size)
  have HS2 := Lib.hid (HRs.out w2 _ (HV.out.below HB2.out))
  clear hb2 HR1 HB1 HS1
  go_wp2_with fail
  refine HS2.out.mono ?_
  rintro e w3 ⟨rfl, hb3⟩
  have HR3 := Lib.hid (HR2.out.below hb3)
  have HB3 : Hid (Below w.heap.size w w3) := HB2.out.trans (hb3.mono HB2.out.size)
  have HS3 := Lib.hid (HBu.out w3 _ (HP.out w3 g HR3.out))
  clear hb3 HR2 HB2 HS2
  go_wp2_with fail
  refine HS3.out.mono ?_
  rintro e w4 ⟨rfl, hb4⟩
  have HR4 := Lib.hid (HR3.out.below hb4)
  have HB4 : Hid (Below w.heap.size w w4) := HB3.out.trans (hb4.mono HB3.out.size)
  have HS4 := Lib.hid (HRb.out w4 _ (HV.out.below HB4.out))
  clear hb4 HR3 HB3 HS3
  go_wp2_with fail
  refine HS4.out.mono ?_
  rintro e w5 ⟨rfl, hb5⟩
  have HR5 := Lib.hid (HR4.out.below hb5)
  have HB5 : Hid (Below w.heap.size w w5) := HB4.out.trans (hb5.mono HB4.out.size)
  have HS5 := Lib.hid (HSh.out w5 _ (HP.out w5 g HR5.out))
  clear hb5 HR4 HB4 HS4
  go_wp2_with fail
  refine HS5.out.mono ?_
  rintro e w6 ⟨rfl, hb6⟩
  have HR6 := Lib.hid (HR5.out.below hb6)
  have HB6 : Hid (Below w.heap.size w w6) := HB5.out.trans (hb6.mono HB5.out.size)
  have HS6 := Lib.hid (HRh.out w6 _ (HV.out.below HB6.out))
  clear hb6 HR5 HB5 HS5
  go_wp2_with fail
  refine HS6.out.mono ?_
  rintro e w7 ⟨rfl, hb7⟩
  have HR7 := Lib.hid (HR6.out.below hb7)
  have HB7 : Hid (Below w.heap.size w w7) := HB6.out.trans (hb7.mono HB6.out.size)
  have HS7 := Lib.hid (HIn.out w7 g HR7.out _ (HV.out.below HB7.out))
  clear hb7 HR6 HB6 HS6
  go_wp2_with fail
  refine HS7.out.mono ?_
  rintro e w8 ⟨rfl, hb8⟩
  have HB8 : Hid (Below w.heap.size w w8) := HB7.out.trans (hb8.mono HB7.out.size)
  clear hb8 HB7 HS7 HR7
  go_wp2_with fail
  refine (known_any w8).mono ?_
  rintro e w9 ⟨rfl, hb9⟩
  go_wp2_with fail
  go_ret
  exact ⟨rfl, HB8.out.trans (hb9.mono HB8.out.size)⟩
end Go.Proofs.Ytlbkadclojjnfaa
