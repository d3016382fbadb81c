/- LanesAt, walked. Own work. -/
import Derived.Test.YtlbkadclojjnfaaLnKnown
import Derived.Test.YtlbkadclojjnfaaLnInt
namespace Go.Proofs.Ytlbkadclojjnfaa
open Go.RowKit
set_option maxRecDepth 100000 in
set_option maxHeartbeats 4000000 in
theorem lanesAt_walk {w : World} {v : Value} {xs : List (Int × Int)} {m o : Int} (hv : Rd2 w v xs) (hp : xs.length ≤ 8796093022000) (hm1 : m ≤ 9223372036854775807) :
    Calls Try.prog 6 #[v, .int .i64 m, .int .i64 o] w fun e w' => e = .returned (.bool true) ∧ Below w.heap.size w w' := by
  have HV := Lib.hid hv
  have HRo := Lib.hid (roomy2_any hv hp)
  have hb3 := hv
  obtain ⟨ao, cap, rfl, h1, h2, h3, _⟩ := hb3
  unfold maxLen at h2
  have HP := Lib.hid (fun W g (h : Row2 W g (room2 xs)) => by
    have := h.rd (n := xs.length) (c := xs.length + 80) (by rw [room2_len]; omega) (by omega) (by unfold maxLen; omega) (by rw [room2, List.take_left]; exact h3)
    rw [room2, List.take_left] at this
    exact this)
  have HAt : Hid (∃ s k : Int, (∀ W u, Rd2 W u xs → Calls Try.prog 22 #[u, .int .i64 m, .int .i64 o] W fun e w' => e = .returned (.tuple #[.int .i64 s, .int .i64 k]) ∧ Below W.heap.size W w') ∧ ∀ W u, Rd2 W u xs → Calls Try.prog 23 #[u, .int .i64 m, .int .i64 o] W fun e w' => e = .returned (.tuple #[.int .i64 s, .int .i64 k]) ∧ Below W.heap.size W w') := by
    by_cases hin : 0 ≤ o ∧ o < m
    · refine ⟨_, _, fun W u h => at_any h hin.1 hin.2 hm1, fun W u h => ?_⟩
      have := rat_any h hin.1 hin.2 hm1 (by omega)
      rwa [at_same hin.2 hin.1] at this
    · exact ⟨-1, 0, fun W u _ => at_out (by omega), fun W u _ => rat_out (by omega)⟩
  obtain ⟨s, k, hA, hB⟩ := HAt.out
  have HA := Lib.hid hA
  have HB := Lib.hid hB
  clear hv h3 hA hB HAt
  go_enter Try.func6, Try.ntmps6
  go_wp2_with fail
  refine HRo.out.mono ?_
  rintro e w1 ⟨g, hg, rfl, hr1, hb1⟩
  have HR1 := Lib.hid hr1
  have HB1 := Lib.hid hb1
  have HA1 := Lib.hid (HA.out w1 _ (HP.out w1 g hr1))
  clear hr1 hb1 HRo
  go_wp2_with fail
  refine HA1.out.mono ?_
  rintro e w2 ⟨rfl, hb2⟩
  have HR2 := Lib.hid (HR1.out.below hb2)
  have HB2 : Hid (Below w.heap.size w w2) := HB1.out.trans (hb2.mono HB1.out.size)
  have HB2' := Lib.hid (HB.out w2 _ (HV.out.below HB2.out))
  clear hb2 HR1 HB1 HA1
  go_wp2_with fail
  refine HB2'.out.mono ?_
  rintro e w3 ⟨rfl, hb3⟩
  have HR3 := Lib.hid (HR2.out.below hb3)
  have HB3 : Hid (Below w.heap.size w w3) := HB2.out.trans (hb3.mono HB2.out.size)
  have HI3 := Lib.hid (intact2_any HR3.out (HV.out.below HB3.out) hp)
  clear hb3 HR2 HB2 HB2' HR3
  go_wp2_with fail
  refine HI3.out.mono ?_
  rintro e w4 ⟨rfl, hb4⟩
  have HB4 : Hid (Below w.heap.size w w4) := HB3.out.trans (hb4.mono HB3.out.size)
  clear hb4 HB3 HI3
  go_wp2_with fail
  refine (known_any w4).mono ?_
  rintro e w5 ⟨rfl, hb5⟩
  go_wp2_with fail
  go_ret
  exact ⟨rfl, HB4.out.trans (hb5.mono HB4.out.size)⟩
end Go.Proofs.Ytlbkadclojjnfaa
