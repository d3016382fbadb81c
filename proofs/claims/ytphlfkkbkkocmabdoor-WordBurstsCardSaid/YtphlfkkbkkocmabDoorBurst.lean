/- Within from 0 on; burst. -/
import Derived.Test.YtphlfkkbkkocmabDoorBurstMath
import Derived.Test.YtphlfkkbkkocmabDoorRSeal
namespace Go.Proofs.YtphlfkkbkkocmabDoor
open Go.RowKit
set_option maxHeartbeats 1000000 in
theorem within_any (n hi : Int) (w : World) (h0 : 0 ≤ hi) (h1 : hi ≤ 1152921504606846976) :
    Calls Tryd.prog 13 #[.int .i64 n, .int .i64 0, .int .i64 hi] w fun e w' => ∃ r : Nat, e = .returned (.int .i64 (r : Int)) ∧ (r : Int) ≤ hi ∧ w' = w := by
  by_cases hn : 0 ≤ n
  · have b1 : 0 ≤ n % (hi + 1) := Int.emod_nonneg n (by omega)
    have b2 : n % (hi + 1) < hi + 1 := Int.emod_lt_of_pos n (by omega)
    go_enter Tryd.func13, Tryd.ntmps13
    go_wp2
    go_ret
    exact ⟨(n % (hi + 1)).toNat, congrArg (fun z => Ending.returned (.int .i64 z)) (by simp; omega), by omega, rfl⟩
  · have b1 : -(hi + 1) < n.tmod (hi + 1) := Int.lt_tmod_of_pos n (by omega)
    have b2 : n.tmod (hi + 1) < hi + 1 := Int.tmod_lt_of_pos n (by omega)
    generalize hm : n.tmod (hi + 1) = m at *
    by_cases hm0 : m < 0
    · go_enter Tryd.func13, Tryd.ntmps13
      go_wp2
      go_ret
      exact ⟨(m + hi + 1).toNat, congrArg (fun z => Ending.returned (.int .i64 z)) (by simp; omega), by omega, rfl⟩
    · go_enter Tryd.func13, Tryd.ntmps13
      go_wp2
      go_ret
      exact ⟨m.toNat, congrArg (fun z => Ending.returned (.int .i64 z)) (by simp; omega), by omega, rfl⟩
/-- what the burst's loop keeps -/
def Turned (w wr : World) (base g cap r k : Nat) (xs : List Nat) : Prop :=
  ∃ ys X, Own wr base (.slice (some ⟨g, 0, none⟩) xs.length cap) ys ∧ ys.length = xs.length ∧ (∀ z ∈ ys, z < 256) ∧ X < 2 ^ k ∧ (0 < k → 0 < X) ∧ Pl.num xs.length ys = Pl.num xs.length xs ^^^ 2 ^ r * X ∧ Below w.heap.size w wr
theorem byte_xor (z t : Nat) (hz : z < 256) (ht : t < 8) : bits .xor .u8 (z : Int) (2 ^ t % 256) = ((z ^^^ 2 ^ t : Nat) : Int) := by
  have h2 : 2 ^ t < 256 := Nat.pow_lt_pow_right (by decide) ht
  have h := u8_xor_nat z (2 ^ t) hz h2
  rw [← h]
  congr 1
  rw [Int.natCast_pow]
  have : ((2 ^ t : Nat) : Int) < 256 := by omega
  rw [Int.natCast_pow] at this
  exact Int.emod_eq_of_lt (by exact Int.pow_nonneg (by decide)) this
theorem Turned.skip {w wr : World} {base g cap r k : Nat} {xs : List Nat} (h : Turned w wr base g cap r k xs) (hk : 0 < k) : Turned w wr base g cap r (k + 1) xs := by
  obtain ⟨ys, X, h1, h2, h3, h4, h5, h6, h7⟩ := h
  exact ⟨ys, X, h1, h2, h3, by rw [Nat.pow_succ]; omega, fun _ => h5 hk, h6, h7⟩
theorem Turned.flip {w wr : World} {base g cap r k : Nat} {xs : List Nat} (h : Turned w wr base g cap r k xs) (hin : r + k < 8 * xs.length) (hg : w.heap.size ≤ g) : ∃ z, wr.cell? ⟨g, (r + k) / 8, none⟩ = some (.int .u8 ((z : Nat) : Int)) ∧ wr.frozen? ⟨g, (r + k) / 8, none⟩ = false ∧ z < 256 ∧ Turned w (wr.setCell ⟨g, (r + k) / 8, none⟩ (.int .u8 (bits .xor .u8 (z : Int) (2 ^ ((r + k) % 8) % 256)))) base g cap r (k + 1) xs := by
  obtain ⟨ys, X, h1, h2, h3, h4, h5, h6, h7⟩ := h
  have hq : (r + k) / 8 < ys.length := by omega
  have ht : (r + k) % 8 < 8 := by omega
  have hz := Pl.mem_getD (k := (r + k) / 8) h3
  refine ⟨ys.getD ((r + k) / 8) 0, h1.cell _ hq, h1.thawed _, hz, ?_⟩
  rw [byte_xor _ _ hz ht]
  refine ⟨ys.set ((r + k) / 8) (ys.getD ((r + k) / 8) 0 ^^^ 2 ^ ((r + k) % 8)), X + 2 ^ k, h1.set _ _, by simpa using h2, ?_, by rw [Nat.pow_succ]; omega, fun _ => Nat.lt_of_lt_of_le (Nat.pow_pos (by decide)) (Nat.le_add_left _ _), ?_, h7.setCell (show w.heap.size ≤ g from hg) _⟩
  · intro y hy
    rcases List.mem_or_eq_of_mem_set hy with h | h
    · exact h3 y h
    · rw [h]
      exact Nat.xor_lt_two_pow (n := 8) hz (Nat.pow_lt_pow_right (by decide) ht)
  · have e := Pl.num_flip ys ((r + k) / 8) ((r + k) % 8) hq ht h3
    rw [h2] at e
    rw [e, h6, show 8 * ((r + k) / 8) + (r + k) % 8 = r + k from by omega, Nat.pow_add, Pl.pow_xor X k h4, Pl.mul_pow_xor, Nat.xor_assoc]
set_option maxRecDepth 100000 in
set_option maxHeartbeats 2000000 in
theorem burst_any {w : World} {v : Value} {xs : List Nat} {at_ : Int} {pat : Nat} (hv : Sl w v xs) (hp : 0 < xs.length) (hl : xs.length ≤ 1099511627776) (hpat : pat < 4294967296) :
    Calls Tryd.prog 24 #[v, .int .i64 at_, .int .u32 (pat : Int)] w fun e w' => ∃ v' ys b X, e = .returned v' ∧ Sl w' v' ys ∧ ys.length = xs.length ∧ 0 < X ∧ X < 4294967296 ∧ Pl.num xs.length ys = Pl.num xs.length xs ^^^ 2 ^ b * X ∧ Below w.heap.size w w' := by
  have HV : Hid (Sl w v xs) := hv
  obtain ⟨Q, hQ⟩ : ∃ Q, pat ||| 1 = Q := ⟨_, rfl⟩
  have hor : bits .or .u32 (pat : Int) 1 = (Q : Int) := by rw [← hQ]; exact u32_or_nat pat 1 hpat (by decide)
  have hQlt : Q < 4294967296 := by rw [← hQ]; exact Nat.or_lt_two_pow (n := 32) hpat (by decide)
  have HQ1 : Hid (Q % 2 = 1) := by
    show Q % 2 = 1
    rw [Nat.mod_two_eq_one_iff_testBit_zero, ← hQ, Nat.testBit_or]
    simp
  clear hv hQ
  go_enter Tryd.func24, Tryd.ntmps24
  go_wp2_with (at_builtin; refine wpList_append_sl (v := .slice none 0 0) (.const (.slice none 0 0)) (.tmp 10) (by rfl) rfl rfl (own_nil w w.heap.size) rfl HV.out (by simp only [List.length_nil]; omega) (Nat.le_refl _) ?_; intro v1 w1 h1 g1 l1; have B1 : Hid (Below w.heap.size w w1) := below_grown g1 (Nat.le_refl _) (fun k hk => by cases hk); have H1 : Hid (Own w1 w.heap.size v1 xs) := h1; clear h1 g1 l1; obtain ⟨g, cap, hv1, hgg, _, hcap, hmax⟩ := H1.out.form hp; have HG : Hid (w.heap.size ≤ g) := hgg; clear hgg; subst hv1)
  unfold maxLen at hmax
  refine (within_any at_ (8 * (xs.length : Int) - 1) _ (by omega) (by omega)).mono ?_
  rintro e w' ⟨r, rfl, hr, hw⟩
  rw [hw]
  clear hw w'
  go_wp2
  go_loopw [9] (fun i wr => ∃ k : Nat, k ≤ 32 ∧ i = .int .i64 (k : Int) ∧ Hid (Turned w wr w.heap.size g cap r k xs)) (fun i _ => 32 - (intOf i).toNat)
  case atStart => exact ⟨0, by omega, rfl, xs, 0, H1.out, rfl, HV.out.small, by simp, by omega, by simp, B1.out⟩
  case round =>
    obtain ⟨k, hk, rfl, HK⟩ := hrel
    by_cases hlt : k < 32
    · have hand0 : bits .and .u32 ((Q : Int) / 2 ^ k) 1 = ((Q / 2 ^ k % 2 : Nat) : Int) := by
        have hq : Q / 2 ^ k < 4294967296 := Nat.lt_of_le_of_lt (Nat.div_le_self _ _) hQlt
        have h := u32_and_nat (Q / 2 ^ k) 1 hq (by decide)
        rw [nat_mask1] at h
        rw [← h, Int.natCast_ediv, Int.natCast_pow]
        rfl
      by_cases hbit : Q / 2 ^ k % 2 = 1
      · have hand : bits .and .u32 ((Q : Int) / 2 ^ k) 1 = 1 := by rw [hand0, hbit]; rfl
        by_cases hin : r + k < 8 * xs.length
        · obtain ⟨z, q1, q2, hz, hT⟩ := HK.out.flip hin HG.out
          have HT : Hid (Turned w (wr.setCell ⟨g, (r + k) / 8, none⟩ (.int .u8 (bits .xor .u8 (z : Int) (2 ^ ((r + k) % 8) % 256)))) w.heap.size g cap r (k + 1) xs) := hT
          clear hand0 hbit hT
          go_wp2
          go_roundw
          case rel => exact ⟨k + 1, by omega, by go_num, HT.out⟩
          case measure => simp [intOf]; omega
        · have HT : Hid (Turned w wr w.heap.size g cap r (k + 1) xs) := HK.out.skip (by omega)
          clear hand0 hbit
          go_wp2
          go_roundw
          case rel => exact ⟨k + 1, by omega, by go_num, HT.out⟩
          case measure => simp [intOf]; omega
      · have hk0 : 0 < k := by
          rcases Nat.eq_zero_or_pos k with e | e
          · subst e
            rw [Nat.pow_zero, Nat.div_one] at hbit
            exact absurd HQ1.out hbit
          · exact e
        have hand : bits .and .u32 ((Q : Int) / 2 ^ k) 1 = 0 := by rw [hand0, show Q / 2 ^ k % 2 = 0 by omega]; rfl
        have HT : Hid (Turned w wr w.heap.size g cap r (k + 1) xs) := HK.out.skip hk0
        clear hand0 hbit
        go_wp2
        go_roundw
        case rel => exact ⟨k + 1, by omega, by go_num, HT.out⟩
        case measure => simp [intOf]; omega
    · have HE : Hid (k = 32) := (by omega : k = 32)
      go_wp2
      go_ret
      obtain ⟨ys, X, h1, h2, h3, h4, h5, h6, h7⟩ := HK.out
      rw [HE.out] at h4 h5
      exact ⟨_, ys, r, X, rfl, h1.sl h3, h2, h5 (by decide), by simpa using h4, h6, h7⟩
end Go.Proofs.YtphlfkkbkkocmabDoor
