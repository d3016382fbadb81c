import Derived.Test.YtnifefmfhjfbnaaGreatDoorPk46
import Derived.Lib.Hide
/- Bundle: one burst is turned. Own work. -/
namespace Go.Proofs.YtnifefmfhjfbnaaGreatDoor
open Go.RowKit
set_option linter.unusedVariables false
set_option linter.unusedSimpArgs false
theorem byte_xorM (z t : Nat) (hz : z < 256) (ht : t < 8) : bits .xor .u8 (z : Int) (2 ^ t % 256) = ((z ^^^ 2 ^ t : Nat) : Int) := by
 have h2 : 2 ^ t < 256 := Nat.pow_lt_pow_right (by decide) ht
 have h := u8_xor_nat z (2 ^ t) hz h2
 rw [← h]
 congr 1
 rw [Int.natCast_pow]
 have : ((2 ^ t : Nat) : Int) < 256 := by omega
 rw [Int.natCast_pow] at this
 exact Int.emod_eq_of_lt (by exact Int.pow_nonneg (by decide)) this
/-- what the burst's loop keeps: what stands ahead and behind is as it was -/
def TurnM (w wr : World) (base g cap B k : Nat) (pre mid post : List Nat) : Prop :=
 ∃ m X, Own wr base (.slice (some ⟨g, 0, none⟩) (pre ++ (mid ++ post)).length cap) (pre ++ (m ++ post)) ∧ m.length = mid.length ∧ (∀ z ∈ m, z < 256) ∧ X < 2 ^ k ∧ (0 < k → 0 < X) ∧ Pl.num mid.length m = Pl.num mid.length mid ^^^ 2 ^ (B - 8 * pre.length) * X ∧ Below w.heap.size w wr
theorem TurnM.skip {w wr : World} {base g cap B k : Nat} {pre mid post : List Nat} (h : TurnM w wr base g cap B k pre mid post) (hk : 0 < k) : TurnM w wr base g cap B (k + 1) pre mid post := by
 obtain ⟨m, X, h1, h2, h3, h4, h5, h6, h7⟩ := h
 exact ⟨m, X, h1, h2, h3, by rw [Nat.pow_succ]; omega, fun _ => h5 hk, h6, h7⟩
theorem mid_getD (pre m post : List Nat) {j : Nat} (hj : j < m.length) : (pre ++ (m ++ post)).getD (pre.length + j) 0 = m.getD j 0 := by
 rw [List.getD_eq_getElem?_getD, List.getD_eq_getElem?_getD, List.getElem?_append_right (by omega), show pre.length + j - pre.length = j by omega, List.getElem?_append_left hj]
theorem mid_set (pre m post : List Nat) {j : Nat} (hj : j < m.length) (v : Nat) : (pre ++ (m ++ post)).set (pre.length + j) v = pre ++ (m.set j v ++ post) := by
 rw [List.set_append_right _ _ (by omega), show pre.length + j - pre.length = j by omega, List.set_append_left _ _ hj]
theorem TurnM.flip {w wr : World} {base g cap B k : Nat} {pre mid post : List Nat} (h : TurnM w wr base g cap B k pre mid post) (h0 : 8 * pre.length ≤ B) (hin : B + k < 8 * (pre.length + mid.length)) (hg : w.heap.size ≤ g) : ∃ z, wr.cell? ⟨g, (B + k) / 8, none⟩ = some (.int .u8 ((z : Nat) : Int)) ∧ wr.frozen? ⟨g, (B + k) / 8, none⟩ = false ∧ z < 256 ∧ TurnM w (wr.setCell ⟨g, (B + k) / 8, none⟩ (.int .u8 (bits .xor .u8 (z : Int) (2 ^ ((B + k) % 8) % 256)))) base g cap B (k + 1) pre mid post := by
 obtain ⟨m, X, h1, h2, h3, h4, h5, h6, h7⟩ := h
 obtain ⟨j, hj⟩ : ∃ j, (B + k) / 8 = pre.length + j := ⟨(B + k) / 8 - pre.length, by omega⟩
 have hjm : j < m.length := by omega
 have ht : (B + k) % 8 < 8 := by omega
 have hz := Pl.mem_getD (k := j) h3
 have hq : (B + k) / 8 < (pre ++ (m ++ post)).length := by
  rw [List.length_append, List.length_append]
  omega
 have hc := h1.cell _ hq
 rw [hj, mid_getD pre m post hjm] at hc
 refine ⟨m.getD j 0, by rw [hj]; exact hc, h1.thawed _, hz, ?_⟩
 rw [byte_xorM _ _ hz ht]
 have hs := h1.set ((B + k) / 8) (m.getD j 0 ^^^ 2 ^ ((B + k) % 8))
 rw [show (pre ++ (m ++ post)).set ((B + k) / 8) (m.getD j 0 ^^^ 2 ^ ((B + k) % 8)) = pre ++ (m.set j (m.getD j 0 ^^^ 2 ^ ((B + k) % 8)) ++ post) by rw [hj]; exact mid_set pre m post hjm _] at hs
 refine ⟨m.set j (m.getD j 0 ^^^ 2 ^ ((B + k) % 8)), X + 2 ^ k, hs, by simpa using h2, ?_, by rw [Nat.pow_succ]; omega, fun _ => Nat.lt_of_lt_of_le (Nat.pow_pos (by decide)) (Nat.le_add_left _ _), ?_, h7.setCell (show w.heap.size ≤ g from hg) _⟩
 ·intro y hy
  rcases List.mem_or_eq_of_mem_set hy with h | h
  ·exact h3 y h
  ·rw [h]
   exact Nat.xor_lt_two_pow (n := 8) hz (Nat.pow_lt_pow_right (by decide) ht)
 ·have e := Pl.num_flip m j ((B + k) % 8) hjm ht h3
  rw [h2] at e
  rw [e, h6, show 8 * j + (B + k) % 8 = (B - 8 * pre.length) + k from by omega, Nat.pow_add, Pl.pow_xor X k h4, Pl.mul_pow_xor, Nat.xor_assoc]
set_option maxRecDepth 100000 in
set_option maxHeartbeats 4000000 in
theorem burstM {w : World} {v : Value} {pre mid post : List Nat} {at_ : Int} {pat : Nat} (hv : Sl w v (pre ++ (mid ++ post))) (hp : 0 < mid.length) (hl : (pre ++ (mid ++ post)).length ≤ 4194304) (hpat : pat < 4294967296) :
  Calls Tryz.prog 25 #[v, .int .i64 (pre.length : Int), .int .i64 ((pre.length + mid.length : Nat) : Int), .int .i64 at_, .int .u32 (pat : Int)] w fun e w' => ∃ v' m b X, e = .returned v' ∧ Sl w' v' (pre ++ (m ++ post)) ∧ m.length = mid.length ∧ (∀ z ∈ m, z < 256) ∧ 0 < X ∧ X < 4294967296 ∧ Pl.num mid.length m = Pl.num mid.length mid ^^^ 2 ^ b * X ∧ Below w.heap.size w w' := by
 have HV : Hid (Sl w v (pre ++ (mid ++ post))) := hv
 have hsm := hv.small
 have HMs : Hid (∀ z ∈ mid, z < 256) := fun z hz => hsm z (List.mem_append_right _ (List.mem_append_left _ hz))
 have HAs : Hid (∀ m : List Nat, (∀ z ∈ m, z < 256) → ∀ z ∈ pre ++ (m ++ post), z < 256) := fun m hm z hz => by
  rcases List.mem_append.1 hz with h | h
  ·exact hsm z (List.mem_append_left _ h)
  ·rcases List.mem_append.1 h with h | h
   ·exact hm z h
   ·exact hsm z (List.mem_append_right _ (List.mem_append_right _ h))
 have hlen : (pre ++ (mid ++ post)).length = pre.length + mid.length + post.length := by rw [List.length_append, List.length_append]; omega
 obtain ⟨xs, hxs⟩ : ∃ xs, pre ++ (mid ++ post) = xs := ⟨_, rfl⟩
 have HXs := Lib.hid hxs
 rw [hxs] at hl hlen HV
 obtain ⟨F, hF⟩ : ∃ F, pre.length = F := ⟨_, rfl⟩
 have HF := Lib.hid hF
 obtain ⟨E, hE⟩ : ∃ E, F + mid.length = E := ⟨_, rfl⟩
 have HE := Lib.hid hE
 rw [hF] at hlen ⊢
 rw [hE]
 have hFE : F < E := by omega
 have hEN : E ≤ xs.length := by omega
 have hpos : 0 < xs.length := by omega
 obtain ⟨Q, hQ⟩ : ∃ Q, pat ||| 1 = Q := ⟨_, rfl⟩
 have hor : bits .or .u32 (pat : Int) 1 = (Q : Int) := by rw [← hQ]; exact u32_or_nat pat 1 hpat (by decide)
 have hQlt : Q < 4294967296 := by rw [← hQ]; exact Nat.or_lt_two_pow (n := 32) hpat (by decide)
 have HQ1 : Hid (Q % 2 = 1) := by
  show Q % 2 = 1
  rw [Nat.mod_two_eq_one_iff_testBit_zero, ← hQ, Nat.testBit_or]
  simp
 clear hv hQ hxs hlen hF hE hsm hp
 go_enter Tryz.func25, Tryz.ntmps25
 go_wp2_with (at_builtin; refine wpList_append_sl (v := .slice none 0 0) (.const (.slice none 0 0)) (.tmp 14) (by rfl) rfl rfl (own_nil w w.heap.size) rfl HV.out (by simp only [List.length_nil]; omega) (Nat.le_refl _) ?_; intro v1 w1 h1 g1 l1; have B1 : Hid (Below w.heap.size w w1) := below_grown g1 (Nat.le_refl _) (fun k hk => by cases hk); have H1 : Hid (Own w1 w.heap.size v1 xs) := h1; clear h1 g1 l1; obtain ⟨g, cap, hv1, hgg, _, hcap, hmax⟩ := H1.out.form hpos; have HG : Hid (w.heap.size ≤ g) := hgg; clear hgg; subst hv1)
 unfold maxLen at hmax
 refine (within_any at_ (8 * ((E : Int) - (F : Int)) - 1) _ (by omega) (by omega)).mono ?_
 rintro e w' ⟨r, rfl, hr, hw⟩
 rw [hw]
 clear hw w'
 obtain ⟨B, hB⟩ : ∃ B, 8 * F + r = B := ⟨_, rfl⟩
 have hBi : 8 * (F : Int) + (r : Int) = (B : Int) := by omega
 have HB : Hid (8 * pre.length ≤ B ∧ B < 8 * (pre.length + mid.length)) := by
  have h1 := HF.out
  have h2 := HE.out
  rw [h1, h2]
  exact ⟨by omega, by omega⟩
 have hBE : B < 8 * E := by omega
 have H2 : Hid (Own w1 w.heap.size (.slice (some ⟨g, 0, none⟩) (pre ++ (mid ++ post)).length cap) (pre ++ (mid ++ post))) := by
  rw [HXs.out]
  exact H1
 have HEn : Hid (∀ k, B + k < 8 * E → B + k < 8 * (pre.length + mid.length)) := fun k hk => by
  have h1 := HF.out
  have h2 := HE.out
  rw [h1, h2]
  exact hk
 clear hB hr H1
 go_wp2
 go_loopw [13] (fun i wr => ∃ k : Nat, k ≤ 32 ∧ i = .int .i64 (k : Int) ∧ Hid (TurnM w wr w.heap.size g cap B k pre mid post)) (fun i _ => 32 - (intOf i).toNat)
 case atStart => exact ⟨0, by omega, rfl, mid, 0, H2.out, rfl, HMs.out, by simp, by omega, by simp, B1.out⟩
 case round =>
  obtain ⟨k, hk, rfl, HK⟩ := hrel
  by_cases hlt : k < 32
  ·have hand0 : bits .and .u32 ((Q : Int) / 2 ^ k) 1 = ((Q / 2 ^ k % 2 : Nat) : Int) := by
    have hq : Q / 2 ^ k < 4294967296 := Nat.lt_of_le_of_lt (Nat.div_le_self _ _) hQlt
    have h := u32_and_nat (Q / 2 ^ k) 1 hq (by decide)
    rw [nat_mask1] at h
    rw [← h, Int.natCast_ediv, Int.natCast_pow]
    rfl
   by_cases hbit : Q / 2 ^ k % 2 = 1
   ·have hand : bits .and .u32 ((Q : Int) / 2 ^ k) 1 = 1 := by rw [hand0, hbit]; rfl
    by_cases hin : B + k < 8 * E
    ·obtain ⟨z, q1, q2, hz, hT⟩ := HK.out.flip HB.out.1 (HEn.out k hin) HG.out
     have HT : Hid (TurnM w (wr.setCell ⟨g, (B + k) / 8, none⟩ (.int .u8 (bits .xor .u8 (z : Int) (2 ^ ((B + k) % 8) % 256)))) w.heap.size g cap B (k + 1) pre mid post) := hT
     clear hand0 hbit hT
     go_wp2
     go_roundw
     case rel => exact ⟨k + 1, by omega, by go_num, HT.out⟩
     case measure => simp [intOf]; omega
    ·have HT : Hid (TurnM w wr w.heap.size g cap B (k + 1) pre mid post) := HK.out.skip (by
      have := HB.out.2
      rcases Nat.eq_zero_or_pos k with e | e
      ·subst e
       exact absurd hBE (by simpa using hin)
      ·exact e)
     clear hand0 hbit
     go_wp2
     go_roundw
     case rel => exact ⟨k + 1, by omega, by go_num, HT.out⟩
     case measure => simp [intOf]; omega
   ·have hk0 : 0 < k := by
     rcases Nat.eq_zero_or_pos k with e | e
     ·subst e
      rw [Nat.pow_zero, Nat.div_one] at hbit
      exact absurd HQ1.out hbit
     ·exact e
    have hand : bits .and .u32 ((Q : Int) / 2 ^ k) 1 = 0 := by rw [hand0, show Q / 2 ^ k % 2 = 0 by omega]; rfl
    have HT : Hid (TurnM w wr w.heap.size g cap B (k + 1) pre mid post) := HK.out.skip hk0
    clear hand0 hbit
    go_wp2
    go_roundw
    case rel => exact ⟨k + 1, by omega, by go_num, HT.out⟩
    case measure => simp [intOf]; omega
  ·have HE32 : Hid (k = 32) := (by omega : k = 32)
   go_wp2
   go_ret
   obtain ⟨m, X, h1, h2, h3, h4, h5, h6, h7⟩ := HK.out
   rw [HE32.out] at h4 h5
   have h8 := h1
   rw [show (pre ++ (mid ++ post)).length = (pre ++ (m ++ post)).length by rw [List.length_append, List.length_append, List.length_append, List.length_append, h2]] at h8
   refine ⟨_, m, B - 8 * pre.length, X, ?_, h8.sl (HAs.out m h3), h2, h3, h5 (by decide), by simpa using h4, h6, h7⟩
   show Ending.returned (.slice (some ⟨g, 0, none⟩) xs.length cap) = Ending.returned (.slice (some ⟨g, 0, none⟩) (pre ++ (m ++ post)).length cap)
   rw [← HXs.out, List.length_append, List.length_append, List.length_append, List.length_append, h2]
end Go.Proofs.YtnifefmfhjfbnaaGreatDoor
/- Bundle: a burst falls. Own work. -/
namespace Go.Proofs.YtnifefmfhjfbnaaGreatDoor
open Go.RowKit Bn Dc
set_option linter.unusedVariables false
set_option linter.unusedSimpArgs false
theorem fall_in {I : Im} {s F E : Nat} (h : Fall I s F E) : F ≤ E ∧ E ≤ (encF I).length ∧ (F = E → s = 8 ∧ I.tabs = []) := by
 obtain ⟨pre, mid, post, hx, hp, hl, hz, _⟩ := h
 refine ⟨by omega, ?_, fun e => hz (by omega)⟩
 rw [hx, List.length_append, List.length_append]
 omega
theorem burst_fall {I : Im} {s F E : Nat} {w : World} {v : Value} {at_ : Int} {pat : Nat} (h : Fall I s F E) (hlt : F < E) (hv : Sl w v (encF I)) (hl : (encF I).length ≤ 4194304) (hp : pat < 4294967296) : Calls Tryz.prog 25 #[v, .int .i64 (F : Int), .int .i64 (E : Int), .int .i64 at_, .int .u32 (pat : Int)] w fun e w' => ∃ v' ys, e = .returned v' ∧ Sl w' v' ys ∧ (decA ys).why ≠ 0 ∧ Below w.heap.size w w' := by
 obtain ⟨pre, mid, post, hx, hpl, hml, _, hh⟩ := h
 subst hpl
 subst hml
 rw [hx] at hv hl
 refine (burstM hv (by omega) hl hp).mono ?_
 rintro e w' ⟨v', m, b, X, rfl, hs, hm, hsm, h0, hX, hn, hb⟩
 exact ⟨v', _, rfl, hs, hh m b X hm hsm h0 hX hn, hb⟩
end Go.Proofs.YtnifefmfhjfbnaaGreatDoor
