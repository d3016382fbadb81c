/- Get, take, and the Reader's calls Byte, Half, Word, Long. -/
import Derived.Test.YtmkmdcoofngkiaaRdr
namespace Go.Proofs.Ytmkmdcoofngkiaa
open Go.RowKit
namespace Pl
/-- the number that m bytes from the k-th on are -/
def acc (zs : List Nat) : Nat → Nat → Nat
  | _, 0 => 0
  | k, m + 1 => zs.getD k 0 + 256 * acc zs (k + 1) m
def num (m : Nat) (zs : List Nat) : Nat := acc zs 0 m
theorem acc_lt {zs : List Nat} (h : ∀ z ∈ zs, z < 256) (k m : Nat) : acc zs k m < 256 ^ m := by
  induction m generalizing k with
  | zero => simp [acc]
  | succ m ih =>
    have h1 := mem_getD (k := k) h
    have h2 := ih (k + 1)
    show zs.getD k 0 + 256 * acc zs (k + 1) m < 256 ^ (m + 1)
    rw [Nat.pow_succ]
    omega
theorem acc_cons (x : Nat) (zs : List Nat) (k m : Nat) : acc (x :: zs) (k + 1) m = acc zs k m := by
  induction m generalizing k with
  | zero => rfl
  | succ m ih => show (x :: zs).getD (k + 1) 0 + _ = zs.getD k 0 + _; rw [ih]; rfl
/-- what le lays num reads -/
theorem num_le (m n : Nat) (r : List Nat) (h : n < 256 ^ m) : num m (le m n ++ r) = n := by
  induction m generalizing n with
  | zero => simp [num, acc]; simp at h; omega
  | succ m ih =>
    have hd : n / 256 < 256 ^ m := by rw [Nat.pow_succ] at h; exact Nat.div_lt_of_lt_mul (by omega)
    have e := ih (n / 256) hd
    show acc (n % 256 :: (le m (n / 256) ++ r)) 0 (m + 1) = n
    show n % 256 + 256 * acc (n % 256 :: (le m (n / 256) ++ r)) (0 + 1) m = n
    rw [acc_cons]
    rw [show acc (le m (n / 256) ++ r) 0 m = n / 256 from e]
    omega
end Pl
theorem Keeps.drew {S : Nat → Prop} {w w' : World} (h : Keeps S w w') : Keeps S w w'.drew := ⟨h.os, h.tape, h.output, h.size, h.block⟩
theorem Rd.drew {w : World} {p g : Nat} {zs : List Nat} {pos : Nat} {why : Int} (h : Rd w p g zs pos why) : Rd w.drew p g zs pos why := h
theorem or_byte (s z : Nat) (hs : s < 72057594037927936) (hz : z < 256) : bits .or .u64 ((s : Int) * 256) (z : Int) = ((z + 256 * s : Nat) : Int) := by
  have h := u64_or_nat (s * 256) z (by omega) (by omega)
  rw [nat_join 8 (s * 256) z (by simp) hz] at h
  rw [Int.natCast_mul] at h
  rw [show z + 256 * s = s * 256 + z from by omega]
  exact h

set_option maxHeartbeats 1000000 in
theorem get_u64_yes {zs : List Nat} {v : Value} {w : World} (hv : Sl w v zs) (hl : 8 ≤ zs.length) :
    Calls Try.prog 79 #[v] w fun e w' => e = .returned (.tuple #[.int .u64 (Pl.num 8 zs : Nat), .bool true]) ∧ w' = w := by
  obtain ⟨b, o, cap, rfl, h1, h2, h3, h4⟩ := hv.pos (by omega)
  have HC : Hid (∀ i, i < zs.length → w.cell? ⟨b, o + i, none⟩ = some (.int .u8 (zs.getD i 0 : Nat))) := h4
  have HZ : Hid (∀ z ∈ zs, z < 256) := h3
  unfold maxLen at h2
  clear h3 h4
  go_enter Try.func79, Try.ntmps79
  go_wp2_with (go_at_call 81; refine (size_u64 _).mono ?_; rintro e w' ⟨rfl, hw⟩; have hw := hw.symm; subst hw)
  go_loop [5, 6] (fun s i => ∃ j : Nat, j ≤ 8 ∧ i = .int .i64 ((j : Int) - 1) ∧ s = .int .u64 ((Pl.acc zs j (8 - j) : Nat) : Int)) (fun _ i => (intOf i + 1).toNat)
  case atStart => exact ⟨8, by omega, rfl, rfl⟩
  case round =>
    obtain ⟨j, hj, rfl, rfl⟩ := hrel
    rcases j with _ | k
    · have HE : Hid (Pl.acc zs 0 (8 - 0) = Pl.num 8 zs) := (rfl : _ = _)
      have hb : Pl.acc zs 0 (8 - 0) < 256 ^ 8 := Pl.acc_lt HZ.out 0 8
      generalize Pl.acc zs 0 (8 - 0) = s at *
      have hb2 : s ≤ 18446744073709551615 := by simp at hb; omega
      clear hb
      go_wp2
      go_ret2
      exact ⟨by rw [← HE.out]; rfl, rfl⟩
    · have hck := HC.out k (by omega)
      have hz := Pl.mem_getD (k := k) HZ.out
      have HA : Hid (Pl.acc zs k (8 - k) = zs.getD k 0 + 256 * Pl.acc zs (k + 1) (8 - (k + 1))) := by
        show _ = _
        rw [show 8 - k = (8 - (k + 1)) + 1 from by omega]
        rfl
      have hs0 := Pl.acc_lt HZ.out (k + 1) (8 - (k + 1))
      have hs : Pl.acc zs (k + 1) (8 - (k + 1)) < 72057594037927936 := Nat.lt_of_lt_of_le hs0 (Nat.le_trans (Nat.pow_le_pow_right (by decide) (show 8 - (k + 1) ≤ 7 by omega)) (by decide))
      clear hs0
      have hor := or_byte _ _ hs hz
      have HN := HA.out
      generalize Pl.acc zs (k + 1) (8 - (k + 1)) = s at *
      generalize zs.getD k 0 = z at *
      generalize z + 256 * s = t at *
      clear HN
      go_wp2
      go_round
      case rel => exact ⟨k, by omega, by go_num, by rw [HA.out]⟩
      case measure => simp [intOf]
set_option maxHeartbeats 400000 in
theorem get_u64_no {zs : List Nat} {v : Value} {w : World} (hv : Sl w v zs) (hl : zs.length < 8) :
    Calls Try.prog 79 #[v] w fun e w' => e = .returned (.tuple #[.int .u64 0, .bool false]) ∧ w' = w := by
  obtain ⟨ao, cap, rfl, _⟩ := hv
  go_enter Try.func79, Try.ntmps79
  go_wp2_with (go_at_call 81; refine (size_u64 _).mono ?_; rintro e w' ⟨rfl, hw⟩; have hw := hw.symm; subst hw)
  go_ret2
  exact ⟨rfl, rfl⟩

set_option maxRecDepth 100000 in
set_option maxHeartbeats 2000000 in
theorem take_u64_yes {w : World} {p g : Nat} {zs : List Nat} {pos : Nat} (h : Rd w p g zs pos 0) (hl : pos + 8 ≤ zs.length) :
    Calls Try.prog 70 #[.pointer (some ⟨p, 0, none⟩)] w fun e w' => e = .returned (.int .u64 (Pl.num 8 (zs.drop pos) : Nat)) ∧ Rd w' p g zs (pos + 8) 0 ∧ Keeps (fun k => k = p) w w' := by
  have c2 := h.cell2
  have HR : Hid (Rd w p g zs pos 0) := h
  have HE : Hid (Enters Try.prog 81) := enters_of Try.func81 (by kernel_rfl) rfl
  have h6 := h.2.2.2.2.2
  clear h
  go_enter Try.func70, Try.ntmps70
  go_wp2_with fail
  refine (rest_any HR.out).mono ?_
  rintro e w1 ⟨ao, c, rfl, hs, hc, ha, hh, hb⟩
  clear hc ha
  have HS : Hid (Sl w1 (.slice ao (zs.length - pos) c) (zs.drop pos)) := hs
  have HR1 : Hid (Rd w1 p g zs pos 0) := HR.out.keeps (Keeps.of_below (S := fun _ => False) hb) (fun h => h) (fun h => h)
  have HB : Hid (Below w.heap.size w w1) := hb
  clear hs hb hh c2
  go_wp2_with fail
  refine (get_u64_yes HS.out (by rw [List.length_drop]; omega)).mono ?_
  rintro e w' ⟨rfl, hw⟩
  rw [hw]
  clear hw w'
  have c1 := HR1.out.cell1
  have t1 := HR1.out.thawed 1
  have HN : Hid (IntKind.i64.wrap ((pos : Int) + 8) = ((pos + 8 : Nat) : Int)) := by show _ = _; rw [IntKind.wrap_i64]; omega
  go_wp2
  go_region_law (refine step_call rfl 81 #[] #[] rfl HE.out #[] (by first | (simp; done) | simp [Act.eval, Act.put]) (.int .i64 8) (size_u64 _) ?_)
  all_goals
    go_wp2
    go_ret
    refine ⟨rfl, ?_, ?_⟩
    · rw [HN.out]
      exact (HR1.out.moved (pos + 8) (by omega)).drew
    · exact (Keeps.of_below (w := w) HB.out).trans (Keeps.setCell w1 p 1 _).drew (fun i _ e => e)
set_option maxHeartbeats 1000000 in
theorem take_u64_no {w : World} {p g : Nat} {zs : List Nat} {pos : Nat} (h : Rd w p g zs pos 0) (hl : zs.length < pos + 8) :
    Calls Try.prog 70 #[.pointer (some ⟨p, 0, none⟩)] w fun e w' => e = .returned (.int .u64 0) ∧ Rd w' p g zs pos 10 ∧ Keeps (fun k => k = p) w w' := by
  have c2 := h.cell2
  have HR : Hid (Rd w p g zs pos 0) := h
  have h6 := h.2.2.2.2.2
  have h4 := h.2.2.2.1
  clear h
  go_enter Try.func70, Try.ntmps70
  go_wp2_with fail
  refine (rest_any HR.out).mono ?_
  rintro e w1 ⟨ao, c, rfl, hs, hc, ha, hh, hb⟩
  clear hc ha
  have HS : Hid (Sl w1 (.slice ao (zs.length - pos) c) (zs.drop pos)) := hs
  have HR1 : Hid (Rd w1 p g zs pos 0) := HR.out.keeps (Keeps.of_below (S := fun _ => False) hb) (fun h => h) (fun h => h)
  have HB : Hid (Below w.heap.size w w1) := hb
  clear hs hb hh c2
  go_wp2_with fail
  refine (get_u64_no HS.out (by rw [List.length_drop]; omega)).mono ?_
  rintro e w' ⟨rfl, hw⟩
  rw [hw]
  clear hw w'
  have c2 := HR1.out.cell2
  have t1 := HR1.out.thawed 2
  go_wp2
  go_ret
  exact ⟨rfl, HR1.out.refuse 10, (Keeps.of_below (w := w) HB.out).trans (Keeps.setCell w1 p 2 _) (fun i _ e => e)⟩
set_option maxHeartbeats 400000 in
theorem take_u64_not {w : World} {p g : Nat} {zs : List Nat} {pos : Nat} {why : Int} (h : Rd w p g zs pos why) (hw : why ≠ 0) :
    Calls Try.prog 70 #[.pointer (some ⟨p, 0, none⟩)] w fun e w' => e = .returned (.int .u64 0) ∧ w' = w := by
  have c2 := h.cell2
  have hb : (why != 0) = true := by simpa using hw
  clear h
  go_enter Try.func70, Try.ntmps70
  go_wp2
  go_ret
  exact ⟨rfl, rfl⟩

set_option maxHeartbeats 400000 in
theorem ru64_yes {w : World} {p g : Nat} {zs : List Nat} {pos : Nat} (h : Rd w p g zs pos 0) (hl : pos + 8 ≤ zs.length) :
    Calls Try.prog 50 #[.pointer (some ⟨p, 0, none⟩)] w fun e w' => e = .returned (.int .u64 (Pl.num 8 (zs.drop pos) : Nat)) ∧ Rd w' p g zs (pos + 8) 0 ∧ Keeps (fun k => k = p) w w' := by
  have HC : Hid (Calls Try.prog 70 #[.pointer (some ⟨p, 0, none⟩)] w fun e w' => e = .returned (.int .u64 (Pl.num 8 (zs.drop pos) : Nat)) ∧ Rd w' p g zs (pos + 8) 0 ∧ Keeps (fun k => k = p) w w') := take_u64_yes h hl
  clear h
  go_enter Try.func50, Try.ntmps50
  go_wp2_with fail
  refine HC.out.mono ?_
  rintro e w1 ⟨rfl, hx⟩
  have HX : Hid (Rd w1 p g zs (pos + 8) 0 ∧ Keeps (fun k => k = p) w w1) := hx
  clear hx HC
  go_wp2
  go_ret
  exact ⟨rfl, HX.out⟩

set_option maxHeartbeats 400000 in
theorem ru64_no {w : World} {p g : Nat} {zs : List Nat} {pos : Nat} (h : Rd w p g zs pos 0) (hl : zs.length < pos + 8) :
    Calls Try.prog 50 #[.pointer (some ⟨p, 0, none⟩)] w fun e w' => e = .returned (.int .u64 0) ∧ Rd w' p g zs pos 10 ∧ Keeps (fun k => k = p) w w' := by
  have HC : Hid (Calls Try.prog 70 #[.pointer (some ⟨p, 0, none⟩)] w fun e w' => e = .returned (.int .u64 0) ∧ Rd w' p g zs pos 10 ∧ Keeps (fun k => k = p) w w') := take_u64_no h hl
  clear h
  go_enter Try.func50, Try.ntmps50
  go_wp2_with fail
  refine HC.out.mono ?_
  rintro e w1 ⟨rfl, hx⟩
  have HX : Hid (Rd w1 p g zs pos 10 ∧ Keeps (fun k => k = p) w w1) := hx
  clear hx HC
  go_wp2
  go_ret
  exact ⟨rfl, HX.out⟩

set_option maxHeartbeats 400000 in
theorem ru64_not {w : World} {p g : Nat} {zs : List Nat} {pos : Nat} {why : Int} (h : Rd w p g zs pos why) (hw : why ≠ 0) :
    Calls Try.prog 50 #[.pointer (some ⟨p, 0, none⟩)] w fun e w' => e = .returned (.int .u64 0) ∧ w' = w := by
  have HC : Hid (Calls Try.prog 70 #[.pointer (some ⟨p, 0, none⟩)] w fun e w' => e = .returned (.int .u64 0) ∧ w' = w) := take_u64_not h hw
  clear h
  go_enter Try.func50, Try.ntmps50
  go_wp2_with fail
  refine HC.out.mono ?_
  rintro e w1 ⟨rfl, hx⟩
  have HX : Hid (w1 = w) := hx
  clear hx HC
  go_wp2
  go_ret
  exact ⟨rfl, HX.out⟩

end Go.Proofs.Ytmkmdcoofngkiaa
