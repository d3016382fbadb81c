/- WordNumbers: a type's numbers as bytes: size, extend, Put, Get. Own work. -/
import Derived.Test.YtkhokajagglogaaGreatWnOpsU64
import Derived.Test.YtkhokajagglogaaGreatWnMk
namespace Go.Proofs.YtkhokajagglogaaGreat.U64
open Go.RowKit
theorem shr_top : ∀ k, k ≤ 8 → (Pl.shr k 18446744073709551615 = 0 ↔ k = 8) := by decide
set_option maxRecDepth 100000 in
set_option maxHeartbeats 1000000 in
theorem size_any (w : World) : Calls Tryz.prog 106 #[] w fun e w' => e = .returned (.int .i64 8) ∧ w' = w := by
  go_enter Tryz.func106, Tryz.ntmps106
  go_wp2_with (go_at_call 139; refine (greatest_any _).mono ?_; rintro e w' ⟨rfl, rfl⟩)
  go_loop [1, 2] (fun nv rv => ∃ k : Nat, k ≤ 8 ∧ nv = .int .i64 (k : Int) ∧ rv = .int .u64 ((Pl.shr k 18446744073709551615 : Nat) : Int)) (fun nv _ => 8 - (intOf nv).toNat)
  case atStart => exact ⟨0, by omega, rfl, rfl⟩
  case round =>
    obtain ⟨k, hk, rfl, rfl⟩ := hrel
    have ht := shr_top k hk
    have HS : Hid (Pl.shr (k + 1) 18446744073709551615 = Pl.shr k 18446744073709551615 / 256) := (rfl : _ = _)
    have hle := Pl.shr_le k 18446744073709551615
    by_cases hlt : k < 8
    · have h0 : Pl.shr k 18446744073709551615 ≠ 0 := fun h => by have := ht.1 h; omega
      generalize Pl.shr k 18446744073709551615 = r at *
      clear ht
      go_wp2
      go_round
      case rel => exact ⟨k + 1, by omega, by go_num, by rw [HS.out]; go_num⟩
      case measure => simp [intOf]; omega
    · obtain rfl : k = 8 := by omega
      have h0 : Pl.shr 8 18446744073709551615 = 0 := ht.2 rfl
      rw [h0]
      go_wp2
      go_ret
      exact ⟨rfl, rfl⟩
set_option maxRecDepth 100000 in
set_option maxHeartbeats 1000000 in
theorem extend_any {v : Value} {xs : List Nat} {n base : Nat} {w : World} (ho : Own w base v xs) (hn : n ≤ 18446744073709551615) (hl : xs.length ≤ 549755813888) (hb : base ≤ w.heap.size) :
    Calls Tryz.prog 107 #[v, .int .u64 n] w fun e w' => ∃ v', e = .returned v' ∧ Own w' base v' (xs ++ Pl.le 8 n) ∧ Keeps (fun k => v.ownBlock = some k) w w' ∧ At w v v' := by
  have := hn
  have HO0 : Hid (Own w base v (xs ++ Pl.le 0 n)) := by rw [Pl.le, List.append_nil]; exact ho
  clear ho
  go_enter Tryz.func107, Tryz.ntmps107
  go_wp2_with (go_at_call 106; refine (size_any _).mono ?_; rintro e w' ⟨rfl, hw⟩; have hw := hw.symm; subst hw)
  go_loopw [0, 5, 8] (fun b r i wr => ∃ k : Nat, k ≤ 8 ∧ i = .int .i64 (k : Int) ∧ r = .int .u64 ((Pl.shr k n : Nat) : Int) ∧ Hid (Own wr base b (xs ++ Pl.le k n)) ∧ Hid (Keeps (fun k => v.ownBlock = some k) w wr) ∧ Hid (At w v b)) (fun _ _ i _ => 8 - (intOf i).toNat)
  case atStart => exact ⟨0, by omega, rfl, rfl, HO0, Keeps.refl _ _, At.refl _ _⟩
  case round =>
    obtain ⟨k, hk, rfl, rfl, HO, HK, HA⟩ := hrel
    clear HO0
    have HS : Hid (Pl.shr (k + 1) n = Pl.shr k n / 256) := (rfl : _ = _)
    have HL : Hid (Pl.le (k + 1) n = Pl.le k n ++ [Pl.shr k n % 256]) := Pl.le_snoc k n
    have HLen : Hid ((xs ++ Pl.le k n).length = xs.length + k) := by show _ = _; rw [List.length_append, Pl.le_length]
    by_cases hlt : k < 8
    · generalize Pl.shr k n = r at *
      have HSl : Hid (Sl (wr.alloc (.cells #[.int .u8 ((r : Int) % 256)] 5)) (.slice (some ⟨wr.heap.size, 0, none⟩) 1 1) [r % 256]) := sl_one wr r
      have HOA : Hid (Own (wr.alloc (.cells #[.int .u8 ((r : Int) % 256)] 5)) base u0 (xs ++ Pl.le k n)) := HO.out.below ((Below.refl _ _).alloc (Nat.le_refl _) _)
      have HBase : Hid (base ≤ wr.heap.size) := Nat.le_trans hb HK.out.size
      go_wp2_with (at_builtin; refine wpList_append_sl (v := u0) (.tmp 10) (.tmp 13) (by rfl) rfl rfl HOA.out rfl HSl.out (by rw [HLen.out]; simp only [List.length_cons, List.length_nil]; omega) (by simp; exact Nat.le_succ_of_le HBase.out) ?_; intro v2 w2 h2 g2 l2; have HO2 : Hid (Own w2 base v2 (xs ++ Pl.le k n ++ [r % 256])) := h2; have HG2 : Hid ((wr.alloc (.cells #[.int .u8 ((r : Int) % 256)] 5)).grownBy w2 u0.ownBlock) := g2; have HL2 : Hid (v2.ownBlock = u0.ownBlock ∨ v2.ownBlock = some (wr.alloc (.cells #[.int .u8 ((r : Int) % 256)] 5)).heap.size) := l2; clear h2 g2 l2)
      go_roundw
      case rel =>
        have hk1 : Keeps (fun k => v.ownBlock = some k) w (wr.alloc (.cells #[.int .u8 ((r : Int) % 256)] 5)) := HK.out.trans (Keeps.alloc (S := fun _ => False) wr _) (fun _ _ h => h.elim)
        refine ⟨k + 1, by omega, by go_num, by rw [HS.out, div256], ?_, hk1.trans (Keeps.of_grown HG2.out) (fun j hj e => HA.out.foot j hj e), HA.out.step hk1.size HL2.out⟩
        have h := HO2.out
        rw [List.append_assoc, ← HL.out] at h
        exact h
      case measure => simp [intOf]; omega
    · have HE : Hid (k = 8) := (by omega : k = 8)
      go_wp2
      go_ret
      have h := HO.out
      rw [HE.out] at h
      exact ⟨_, rfl, h, HK.out, HA.out⟩
set_option maxRecDepth 100000 in
set_option maxHeartbeats 2000000 in
theorem put_any {v : Value} {p : List Nat} {n : Nat} {w : World} (hv : Sl w v p) (hp : p.length ≤ 2147483647) (hn : n ≤ 18446744073709551615) :
    Calls Tryz.prog 37 #[v, .int .u64 (n : Int)] w fun e w' => ∃ v', e = .returned v' ∧ Own w' w.heap.size v' (p ++ Pl.le 8 n) ∧ Below w.heap.size w w' := by
  obtain ⟨i, hi, hz0, hz1, hz2⟩ := info_parts info_byte
  have HSz : Hid ((Tryz.prog.info? 5).map (·.size) = some 1) := (by rw [hi, Option.map_some, hz1] : _ = _)
  clear hi hz0 hz1 hz2
  have HV : Hid (Sl w v p) := hv
  obtain ⟨ao, cap, rfl, hc1, hc2, _⟩ := hv
  have HPl : Hid ((bvs p).length = p.length) := bvs_length p
  go_enter Tryz.func37, Tryz.ntmps37
  go_wp2_with (first | (go_at_call 106; refine (size_any _).mono ?_; rintro e w' ⟨rfl, hw⟩; have hw := hw.symm; subst hw) | (at_make; refine wpList_makeP _ rfl _ _ rfl _ _ _ _ p.length (p.length + 8) rfl rfl rfl (by omega) (by omega) (by omega) ?_))
  intro w1 HR1 HG1
  have HB1 : Hid (Below w.heap.size w w1) := (Below.refl _ _).grown HG1.out (Nat.le_refl _) (by simp)
  have HPos : Hid (0 < (bvs p).length → (some ⟨w.heap.size, 0, none⟩ : Option Addr) = some ⟨w.heap.size, 0, none⟩ ∧ ∃ ad, ao = some ad ∧ ∀ j v, (bvs p)[j]? = some v → w1.cell? (ad.add j) = some v) := by
    intro hp0
    rw [bvs_length] at hp0
    obtain ⟨b', o', c', e', _, _, _, hcs⟩ := HV.out.pos hp0
    simp only [Value.slice.injEq] at e'
    obtain ⟨rfl, _, _⟩ := e'
    refine ⟨rfl, ⟨b', o', none⟩, rfl, fun j v hj => ?_⟩
    have hjl : j < p.length := by simpa [bvs_length] using (List.getElem?_eq_some_iff.1 hj).1
    rw [bvs_get p j hjl] at hj
    have hc := hcs j hjl
    rw [Addr.add_lit, HB1.out.cell (p := ⟨b', o' + j, none⟩) (World.block_lt_of_cell? w _ hc), hc, hj]
  go_wp2_with (refine wpList_copy_splice rfl (.tmp 13) (.tmp 14) 23 23 rfl 5 Tryz.underlying23 HSz.out _ ao _ _ p.length cap rfl rfl w.heap.size 0 (bvs (List.replicate (p.length + 8) 0)) 5 HR1.out (bvs p) (by rw [HPl.out]; exact (Nat.min_eq_left (by omega)).symm) HPos.out (by rw [HPl.out, bvs_length, List.length_replicate]; omega) (bvs_one p) w.heap.size w HB1.out (Nat.le_refl _) ?_)
  intro w2 HG2 hB2
  have HR2 : Hid (Row w2 w.heap.size (p ++ List.replicate 8 0)) := by
    have e := splice_front (p.length + 8) p
    rw [Nat.add_sub_cancel_left] at e
    have h := HG2.out
    rw [e] at h
    exact h
  have HB2 : Hid (Below w.heap.size w w2) := hB2
  have HO2 : Hid (Own w2 w.heap.size (.slice (some ⟨w.heap.size, 0, none⟩) p.length (p.length + 8)) p) := own_of_row HR2.out (Nat.le_refl _) (by simp) rfl (by omega) (by unfold maxLen; omega) (List.take_left)
  have HX2 := Lib.hid (extend_any HO2.out hn (by omega) HB2.out.size)
  clear HG2 hB2 HR2 HPos HPl HR1 HG1 HB1 HV
  go_wp2_with fail
  refine HX2.out.mono ?_
  rintro e w3 ⟨v3, rfl, ho3, hk3, ha3⟩
  have HO3 := Lib.hid ho3
  have HB3 : Hid (Below w.heap.size w w3) := HB2.out.trans (hk3.below HB2.out.size (fun i _ e => by cases e; exact Nat.le_refl _))
  clear ho3 hk3 ha3 HX2 HO2
  go_wp2_with fail
  go_ret
  exact ⟨_, rfl, HO3.out, HB3.out⟩
set_option maxRecDepth 100000 in
set_option maxHeartbeats 1000000 in
theorem get_yes {zs : List Nat} {v : Value} {w : World} (hv : Sl w v zs) (hl : 8 ≤ zs.length) :
    Calls Tryz.prog 38 #[v] w fun e w' => e = .returned (.tuple #[.int .u64 (Pl.num 8 zs : Nat), .bool true]) ∧ w' = w := by
  obtain ⟨b, o, cap, rfl, h1, h2, h3, h4⟩ := hv.pos (by omega)
  have HC : Hid (∀ i, i < zs.length → w.cell? ⟨b, o + i, none⟩ = some (.int .u8 (zs.getD i 0 : Nat))) := h4
  have HZ : Hid (∀ z ∈ zs, z < 256) := h3
  unfold maxLen at h2
  clear h3 h4
  go_enter Tryz.func38, Tryz.ntmps38
  go_wp2_with (go_at_call 106; refine (size_any _).mono ?_; rintro e w' ⟨rfl, hw⟩; have hw := hw.symm; subst hw)
  go_loop [5, 6] (fun s i => ∃ j : Nat, j ≤ 8 ∧ i = .int .i64 ((j : Int) - 1) ∧ s = .int .u64 ((Pl.acc zs j (8 - j) : Nat) : Int)) (fun _ i => (intOf i + 1).toNat)
  case atStart => exact ⟨8, by omega, rfl, rfl⟩
  case round =>
    obtain ⟨j, hj, rfl, rfl⟩ := hrel
    rcases j with _ | k
    · have HE : Hid (Pl.acc zs 0 (8 - 0) = Pl.num 8 zs) := (rfl : _ = _)
      have hb : Pl.acc zs 0 (8 - 0) < 256 ^ 8 := Pl.acc_lt HZ.out 0 8
      generalize Pl.acc zs 0 (8 - 0) = s at *
      have hb2 : s ≤ 18446744073709551615 := by simp at hb; omega
      clear hb
      go_wp2
      go_ret2
      exact ⟨by rw [← HE.out]; rfl, rfl⟩
    · have hck := HC.out k (by omega)
      have hz := Pl.mem_getD (k := k) HZ.out
      have HA : Hid (Pl.acc zs k (8 - k) = zs.getD k 0 + 256 * Pl.acc zs (k + 1) (8 - (k + 1))) := by
        show _ = _
        rw [show 8 - k = (8 - (k + 1)) + 1 from by omega]
        rfl
      have hs0 := Pl.acc_lt HZ.out (k + 1) (8 - (k + 1))
      have hs : Pl.acc zs (k + 1) (8 - (k + 1)) < 72057594037927936 := Nat.lt_of_lt_of_le hs0 (Nat.le_trans (Nat.pow_le_pow_right (by decide) (show 8 - (k + 1) ≤ 7 by omega)) (by decide))
      clear hs0
      have hor := or_byte _ _ hs hz
      have HN := HA.out
      generalize Pl.acc zs (k + 1) (8 - (k + 1)) = s at *
      generalize zs.getD k 0 = z at *
      generalize z + 256 * s = t at *
      clear HN
      go_wp2
      go_round
      case rel => exact ⟨k, by omega, by go_num, by rw [HA.out]⟩
      case measure => simp [intOf]
set_option maxHeartbeats 400000 in
theorem get_no {zs : List Nat} {v : Value} {w : World} (hv : Sl w v zs) (hl : zs.length < 8) :
    Calls Tryz.prog 38 #[v] w fun e w' => e = .returned (.tuple #[.int .u64 0, .bool false]) ∧ w' = w := by
  obtain ⟨ao, cap, rfl, _⟩ := hv
  go_enter Tryz.func38, Tryz.ntmps38
  go_wp2_with (go_at_call 106; refine (size_any _).mono ?_; rintro e w' ⟨rfl, hw⟩; have hw := hw.symm; subst hw)
  go_ret2
  exact ⟨rfl, rfl⟩
end Go.Proofs.YtkhokajagglogaaGreat.U64
