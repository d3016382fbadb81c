/- Put of no bytes and a number of 64 bits; Sub. Own work. -/
import Derived.Test.YtehedllcdpjebaaBRead
import Derived.Test.YtehedllcdpjebaaSpNumU64
namespace Go.Proofs.Ytehedllcdpjebaa
open Go.RowKit Go.Maps
set_option maxRecDepth 100000 in
set_option maxHeartbeats 2000000 in
theorem put_nil {n : Nat} (w : World) (hn : n ≤ 18446744073709551615) : Calls Try.prog 17 #[.slice none 0 0, .int .u64 (n : Int)] w fun e w' => ∃ v', e = .returned v' ∧ Own w' w.heap.size v' (Pl.le 8 n) ∧ Below w.heap.size w w' := by
  obtain ⟨i, hi, hz0, hz1, hz2⟩ := info_parts info_byte
  have hsz : (Try.prog.info? 5).map (·.size) = some 1 := by rw [hi, Option.map_some, hz1]
  have HSz : Hid ((Try.prog.info? 5).map (·.size) = some 1) := hsz
  have HB : Hid (i.bytes * 8 ≤ 281474976710656) := by rw [hz2]; show (1 * 8 : Nat) ≤ _; omega
  have HI : Hid (Try.prog.info? 5 = some i ∧ i.zero = some (.int .u8 0) ∧ i.size = 1) := ⟨hi, hz0, hz1⟩
  clear hsz hi hz0 hz1 hz2
  go_enter Try.func17, Try.ntmps17
  go_wp2_with (first | (go_at_call 32; refine (size_u64 _).mono ?_; rintro e w' ⟨rfl, hw⟩; have hw := hw.symm; subst hw) | (at_make; refine wpList_make_own _ rfl _ _ 61 rfl w.heap.size 5 i (.int .u8 0) 1 Try.underlying61 HI.out.1 HI.out.2.1 HI.out.2.2 _ _ _ 8 rfl rfl rfl HB.out (by decide) (Nat.le_refl _) ?_; intro w1 hown hgrow; have HO1 : Hid (Own w1 w.heap.size (.slice (some ⟨w.heap.size, 0, none⟩) 0 8) []) := hown; have HG1 : Hid (w.grownBy w1 none) := hgrow; clear hown hgrow) | (refine wpList_copy_nothing rfl (.tmp 13) (.tmp 14) _ _ rfl 5 Try.underlying61 HSz.out _ _ _ _ _ _ rfl rfl rfl ?_))
  refine (extend_u64 HO1.out hn (by decide) HG1.out.size).mono ?_
  rintro e w2 ⟨v2, rfl, ho2, hk2, ha2⟩
  have HO2 : Hid (Own w2 w.heap.size v2 (Pl.le 8 n)) := by rw [List.nil_append] at ho2; exact ho2
  have HB2 : Hid (Below w.heap.size w w2) := (below_grown HG1.out (Nat.le_refl _) (by simp)).trans (hk2.below HG1.out.size (fun i _ e => by cases e; exact Nat.le_refl _))
  clear ho2 hk2 ha2
  go_wp2_with fail
  go_ret
  exact ⟨_, rfl, HO2.out, HB2.out⟩
def subB (a b : Int) : Int × Bool := if a < b then (0, false) else (a - b, true)
end Go.Proofs.Ytehedllcdpjebaa
