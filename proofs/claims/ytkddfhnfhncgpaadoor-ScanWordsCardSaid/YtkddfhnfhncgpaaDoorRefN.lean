/- The document's own answer to chapter 5: Named. -/
import Derived.Test.YtkddfhnfhncgpaaDoorRefE
import Derived.Test.YtkddfhnfhncgpaaDoorRefK
import Derived.Test.YtkddfhnfhncgpaaDoorRefM
import Derived.Deep.RegionHeld3
namespace Go.Proofs.YtkddfhnfhncgpaaDoor
open Go.RowKit Sc
namespace Sc
/-- pieces with points between: is each a number as it is written? -/
def piecesF (l : List Nat) : Bool := decimalF (cutF l).1 && if _h : (cutF l).2.2 = true then piecesF (cutF l).2.1 else true
termination_by l.length
decreasing_by exact cutF_less l (by assumption)
theorem pieces_eq (l : List Nat) : piecesF l = (decimalF (cutF l).1 && if (cutF l).2.2 = true then piecesF (cutF l).2.1 else true) := by
  rw [piecesF]
  by_cases h : (cutF l).2.2 = true
  · rw [dif_pos h, if_pos h]
  · rw [dif_neg h, if_neg h]
theorem idx_pieces : ∀ (f : Nat) (l : List Nat) (b : Bool), l.length < f → idxF f b l = if b then piecesF l else true
  | 0, _, _, h => by omega
  | f + 1, l, false, _ => rfl
  | f + 1, l, true, h => by
    rw [idxF, if_pos rfl, pieces_eq]
    congr 1
    cases hc : (cutF l).2.2 with
    | true =>
      have := cutF_less l hc
      rw [idx_pieces f _ true (by omega)]
    | false =>
      rw [if_neg (by decide)]
      cases f <;> rfl
theorem cut_at : ∀ (l : List Nat) (m : Nat), m ≤ l.length → (∀ j, j < m → l.getD j 0 ≠ 46) → (m < l.length → l.getD m 0 = 46) → cutF l = (l.take m, l.drop (m + 1), decide (m < l.length))
  | [], m, h, _, _ => by
    obtain rfl : m = 0 := by simpa using h
    rfl
  | b :: l, 0, _, _, h2 => by
    have : b = 46 := by simpa using h2 (by simp)
    simp [cutF, this]
  | b :: l, m + 1, h, h1, h2 => by
    have hb : b ≠ 46 := h1 0 (by omega)
    have ih := cut_at l m (by simpa using h) (fun j hj => h1 (j + 1) (by omega)) (fun hm => h2 (by simpa using hm))
    rw [cutF, if_neg hb, ih]
    simp
end Sc
/-- what is left of a name from the point at i on -/
def tailN (s : ByteArray) (i : Nat) : Bool := if i < s.size then piecesF ((sb s).drop (i + 1)) else true
theorem named_eq {s : ByteArray} {k : Nat} (h64 : s.size ≤ 64) (hk : k ≤ s.size) (h1 : ∀ j, j < k → (sb s).getD j 0 ≠ 46) (h2 : k < s.size → (sb s).getD k 0 = 46) :
    namedF (sb s) = (legalF (sb (s.extract 0 k)) && tailN s k) := by
  have hl := sb_length s
  unfold namedF
  rw [cut_at (sb s) k (by omega) h1 (fun h => h2 (by omega)), hl, decide_eq_true h64, Bool.true_and]
  simp only
  rw [idx_pieces _ _ _ (by rw [List.length_drop, hl]; omega), sb_extract, List.drop_zero, Nat.sub_zero]
  unfold tailN
  congr 1
  by_cases h : k < s.size
  · simp [h]
  · simp [h]
theorem tail_step {s : ByteArray} {i k : Nat} (hi : i < s.size) (hik : i + 1 ≤ k) (hk : k ≤ s.size) (h1 : ∀ j, i + 1 ≤ j → j < k → (sb s).getD j 0 ≠ 46) (h2 : k < s.size → (sb s).getD k 0 = 46) :
    tailN s i = (decimalF (sb (s.extract (i + 1) k)) && tailN s k) := by
  have hl := sb_length s
  have hg : ∀ j, ((sb s).drop (i + 1)).getD j 0 = (sb s).getD (i + 1 + j) 0 := fun j => by simp [List.getD_eq_getElem?_getD, List.getElem?_drop]
  have hc := cut_at ((sb s).drop (i + 1)) (k - (i + 1)) (by rw [List.length_drop]; omega) (fun j hj => by rw [hg]; exact h1 _ (by omega) (by omega)) (fun h => by
    rw [List.length_drop] at h
    rw [hg, show i + 1 + (k - (i + 1)) = k from by omega]
    exact h2 (by omega))
  unfold tailN
  rw [if_pos hi, pieces_eq, hc, sb_extract]
  simp only
  congr 1
  rw [List.drop_drop, List.length_drop, hl, show i + 1 + (k - (i + 1) + 1) = k + 1 from by omega]
  by_cases h : k < s.size
  · rw [if_pos h, if_pos (decide_eq_true (by omega))]
  · rw [if_neg h, if_neg (by simp; omega)]
theorem tailN_end {s : ByteArray} {i : Nat} (h : ¬ i < s.size) : tailN s i = true := by unfold tailN; rw [if_neg h]
set_option maxRecDepth 100000 in
set_option maxHeartbeats 2000000 in
theorem rNamed_any (s : ByteArray) {w : World} (ht : RTabs w) : Calls Tryd.prog 9 #[.string s] w fun e w' => e = .returned (.bool (namedF (sb s))) ∧ Below w.heap.size w w' := by
  have HL : Hid ((sb s).length = s.size) := sb_length s
  by_cases h64 : 64 < s.size
  · have HE : Hid (namedF (sb s) = false) := by show _ = _; unfold namedF; rw [HL.out, decide_eq_false (show ¬ s.size ≤ 64 by omega)]; rfl
    have i0 : (64 : Int) < (s.size : Int) := by omega
    clear ht
    go_enter Tryd.func9, Tryd.ntmps9
    go_wp2_with fail
    go_ret
    rw [HE.out]
    exact ⟨rfl, Below.refl _ _⟩
  · have i0 : ¬ (64 : Int) < (s.size : Int) := by omega
    have HT : Hid (RTabs w) := ht
    have H64 : Hid (s.size ≤ 64) := by show _ ≤ _; omega
    clear ht h64
    go_enter Tryd.func9, Tryd.ntmps9
    go_wp2_with fail
    go_loopw [3] (fun i wr => ∃ k : Nat, k ≤ s.size ∧ i = .int .i64 (k : Int) ∧ Hid (∀ j, j < k → (sb s).getD j 0 ≠ 46) ∧ Hid (Below w.heap.size w wr)) (fun i _ => s.size - (intOf i).toNat)
    case atStart => exact ⟨0, by omega, rfl, fun j hj => absurd hj (Nat.not_lt_zero j), Below.refl _ _⟩
    case round =>
      obtain ⟨k, hk, rfl, HA, HB⟩ := hrel
      by_cases hgo : k < s.size ∧ (sb s).getD k 0 ≠ 46
      · obtain ⟨hlt, hne⟩ := hgo
        rw [sb_get s k hlt] at hne
        have p46 : ((s[k].toNat : Int) == 46) = false := beq_eq_false_iff_ne.2 (by omega)
        have ik : (k : Int) < (s.size : Int) := by omega
        have HN : Hid (∀ j, j < k + 1 → (sb s).getD j 0 ≠ 46) := by
          intro j hj
          by_cases e : j = k
          · rw [e, sb_get s k hlt]; exact hne
          · exact HA.out j (by omega)
        clear hne HA
        go_wp2_with fail
        exact ⟨⟨k + 1, by omega, by go_num, HN, HB⟩, by simp [intOf]; omega⟩
      · have HE : Hid (namedF (sb s) = (legalF (sb (s.extract 0 k)) && tailN s k)) := named_eq H64.out hk HA.out (fun h => Classical.byContradiction fun e => hgo ⟨h, e⟩)
        have HLg : Hid (Calls Tryd.prog 7 #[.string (s.extract 0 k)] wr fun e w' => e = .returned (.bool (legalF (sb (s.extract 0 k)))) ∧ wr = w') := rLegal_any _ (HT.out.below HB.out)
        have ks : (k : Int) ≤ (s.size : Int) := by omega
        have HG : Hid (¬ (k < s.size ∧ (sb s).getD k 0 ≠ 46)) := hgo
        clear HA hgo
        by_cases hlt : k < s.size
        · have p46 : ((s[k].toNat : Int) == 46) = true := by
            have : (sb s).getD k 0 = 46 := Classical.byContradiction fun e => HG.out ⟨hlt, e⟩
            rw [sb_get s k hlt] at this
            rw [this]
            rfl
          have ik : (k : Int) < (s.size : Int) := by omega
          go_wp2_with fail
          refine HLg.out.mono ?_
          rintro e w1 ⟨rfl, rfl⟩
          clear HLg
          cases hlg : legalF (sb (s.extract 0 k)) with
          | false =>
            have HF : Hid (namedF (sb s) = false) := by show _ = _; rw [HE.out, hlg]; rfl
            clear hlg HE
            go_wp2_with fail
            go_ret
            rw [HF.out]
            exact ⟨rfl, HB.out⟩
          | true =>
            have HTl0 : Hid (namedF (sb s) = tailN s k) := by show _ = _; rw [HE.out, hlg]; rfl
            clear hlg HE HG
            go_wp2_with fail
            go_loopw [3] (fun iv wq => ∃ i : Nat, i ≤ s.size ∧ iv = .int .i64 (i : Int) ∧ Hid (namedF (sb s) = tailN s i) ∧ Hid (Below w.heap.size w wq)) (fun iv _ => s.size - (intOf iv).toNat)
            case atStart => exact ⟨k, hk, rfl, HTl0, HB⟩
            case round =>
              obtain ⟨i, hi0, rfl, HTl, HBq⟩ := hrel
              clear HTl0
              by_cases hi : i < s.size
              · have ii : (i : Int) < (s.size : Int) := by omega
                go_wp2_with fail
                go_loopw [4] (fun jv wr2 => ∃ j : Nat, i + 1 ≤ j ∧ j ≤ s.size ∧ jv = .int .i64 (j : Int) ∧ Hid (∀ t, i + 1 ≤ t → t < j → (sb s).getD t 0 ≠ 46) ∧ Hid (Below w.heap.size w wr2)) (fun jv _ => s.size - (intOf jv).toNat)
                case atStart => exact ⟨i + 1, Nat.le_refl _, by omega, by go_num, fun t h1 h2 => absurd h1 (by omega), HBq⟩
                case round =>
                  obtain ⟨j, hij, hj, rfl, HA2, HBr⟩ := hrel
                  by_cases hgo2 : j < s.size ∧ (sb s).getD j 0 ≠ 46
                  · obtain ⟨hlt2, hne2⟩ := hgo2
                    rw [sb_get s j hlt2] at hne2
                    have p462 : ((s[j].toNat : Int) == 46) = false := beq_eq_false_iff_ne.2 (by omega)
                    have ij2 : (j : Int) < (s.size : Int) := by omega
                    have HN2 : Hid (∀ t, i + 1 ≤ t → t < j + 1 → (sb s).getD t 0 ≠ 46) := by
                      intro t h1 h2
                      by_cases e : t = j
                      · rw [e, sb_get s j hlt2]; exact hne2
                      · exact HA2.out t h1 (by omega)
                    clear hne2 HA2
                    go_wp2_with fail
                    exact ⟨⟨j + 1, by omega, by omega, by go_num, HN2, HBr⟩, by simp [intOf]; omega⟩
                  · have HG2 : Hid (¬ (j < s.size ∧ (sb s).getD j 0 ≠ 46)) := hgo2
                    clear hgo2
                    by_cases hlt2 : j < s.size
                    · have p462 : ((s[j].toNat : Int) == 46) = true := by
                        have : (sb s).getD j 0 = 46 := Classical.byContradiction fun e => HG2.out ⟨hlt2, e⟩
                        rw [sb_get s j hlt2] at this
                        rw [this]
                        rfl
                      have ij2 : (j : Int) < (s.size : Int) := by omega
                      have HSt : Hid (tailN s i = (decimalF (sb (s.extract (i + 1) j)) && tailN s j)) := tail_step hi hij hj HA2.out (fun h => Classical.byContradiction fun e => HG2.out ⟨h, e⟩)
                      have HIn : Hid (∀ W, Calls Tryd.prog 24 #[.string (s.extract (i + 1) j)] W fun e w' => e = .returned (rintV (rintF (sb (s.extract (i + 1) j)))) ∧ Below W.heap.size W w') := fun W => rInteger_any _ (by have := H64.out; rw [ByteArray.size_extract]; omega)
                      have HPc := Lib.hid (piece_is (sb_small (s.extract (i + 1) j)))
                      have HPm : Hid (mkS (sb (s.extract (i + 1) j)) = s.extract (i + 1) j) := mkS_sb _
                      have js : (j : Int) ≤ (s.size : Int) := by omega
                      have ij : (i : Int) + 1 ≤ (j : Int) := by omega
                      have i4 : ((i : Int) + 1).toNat = i + 1 := by omega
                      have i5 : (0 : Int) ≤ (i : Int) + 1 := by omega
                      have i6 : IntKind.i64.wrap ((i : Int) + 1) = (i : Int) + 1 := by have := H64.out; rw [IntKind.wrap_i64]; omega
                      clear HA2 HG2
                      go_wp2_with fail
                      refine (HIn.out _).mono ?_
                      rintro e w2 ⟨rfl, hb2⟩
                      have HB2 : Hid (Below w.heap.size w w2) := HBr.out.trans (hb2.mono HBr.out.size)
                      clear hb2 HIn
                      cases hr : rintF (sb (s.extract (i + 1) j)) with
                      | bad q =>
                        have HF : Hid (namedF (sb s) = false) := by
                          show _ = _
                          rw [HTl.out, HSt.out]
                          cases hd : decimalF (sb (s.extract (i + 1) j)) with
                          | false => rfl
                          | true =>
                            obtain ⟨u, z, _, h2, _⟩ := HPc.out.1 hd
                            rw [hr] at h2
                            cases h2
                        have q0 : (0 : Int) ≤ (q : Int) := by omega
                        clear hr HPc HSt HPm
                        unfold rintV
                        go_wp2_with fail
                        go_quiet (fail)
                        go_wp2_with fail
                        go_ret
                        rw [HF.out]
                        exact ⟨rfl, bdn HB2.out _⟩
                      | ok u z =>
                        have HNb : Hid (∀ W, Calls Tryd.prog 14 #[.int .u64 (u : Int)] W fun e w' => ∃ v, e = .returned v ∧ Own w' W.heap.size v (decN u) ∧ Below W.heap.size W w') := fun W => rNumber_any rfl (rint_le hr) W
                        cases hd : decimalF (sb (s.extract (i + 1) j)) with
                        | true =>
                          have hE : mkS (decN u) = s.extract (i + 1) j := by
                            obtain ⟨u', z', _, h2, h3⟩ := HPc.out.1 hd
                            rw [hr] at h2
                            cases h2
                            rw [h3]
                            exact HPm.out
                          have HN : Hid (namedF (sb s) = tailN s j) := by show _ = _; rw [HTl.out, HSt.out, hd, Bool.true_and]
                          have HC : Hid ((mkS (decN u)).toList == (s.extract (i + 1) j).toList) := str_eq hE
                          clear hr hd HPc HSt HPm hE
                          unfold rintV
                          go_wp2_with fail
                          go_region_held (fun _ => True) (trivial) ((go_at_call 14; refine (HNb.out _).mono ?_; rintro e w3 ⟨v3, rfl, ho3, hb3⟩; have hcv := conv_str (ho3.sl (fun z hz => by have := decN_small u z hz; omega))))
                          have HB3 : Hid (Below w.heap.size w w3) := HB2.out.drew.trans (hb3.mono HB2.out.size)
                          have hc := HC.out
                          clear ho3 hb3 HNb HC
                          go_wp2_with fail
                          all_goals try (rename_i hcc; rw [hc] at hcc; exact absurd hcc (by decide))
                          exact ⟨⟨j, hj, rfl, HN, HB3⟩, by simp only [intOf, Int.toNat_natCast]; omega⟩
                        | false =>
                          have hE : ¬ mkS (decN u) = s.extract (i + 1) j := by
                            intro e
                            have h2 := (HPc.out.2 hd u z hr).2
                            have h3 := congrArg sb e
                            rw [sb_mkS (fun z hz => by have := decN_small u z hz; omega)] at h3
                            exact h2 h3
                          have HN : Hid (namedF (sb s) = false) := by show _ = _; rw [HTl.out, HSt.out, hd, Bool.false_and]
                          have HC : Hid (((mkS (decN u)).toList == (s.extract (i + 1) j).toList) = false) := str_ne hE
                          clear hr hd HPc HSt HPm hE
                          unfold rintV
                          go_wp2_with fail
                          go_region_held (fun _ => True) (trivial) ((go_at_call 14; refine (HNb.out _).mono ?_; rintro e w3 ⟨v3, rfl, ho3, hb3⟩; have hcv := conv_str (ho3.sl (fun z hz => by have := decN_small u z hz; omega))))
                          have HB3 : Hid (Below w.heap.size w w3) := HB2.out.drew.trans (hb3.mono HB2.out.size)
                          have hc1 := HC.out
                          clear ho3 hb3 HNb HC
                          go_wp2_with fail
                          all_goals try (rename_i hcc; rw [hc1] at hcc; exact absurd hcc (by decide))
                          go_ret
                          rw [HN.out]
                          exact ⟨rfl, HB3.out⟩
                    · have ij2 : ¬ (j : Int) < (s.size : Int) := by omega
                      have HSt : Hid (tailN s i = (decimalF (sb (s.extract (i + 1) j)) && tailN s j)) := tail_step hi hij hj HA2.out (fun h => Classical.byContradiction fun e => HG2.out ⟨h, e⟩)
                      have HIn : Hid (∀ W, Calls Tryd.prog 24 #[.string (s.extract (i + 1) j)] W fun e w' => e = .returned (rintV (rintF (sb (s.extract (i + 1) j)))) ∧ Below W.heap.size W w') := fun W => rInteger_any _ (by have := H64.out; rw [ByteArray.size_extract]; omega)
                      have HPc := Lib.hid (piece_is (sb_small (s.extract (i + 1) j)))
                      have HPm : Hid (mkS (sb (s.extract (i + 1) j)) = s.extract (i + 1) j) := mkS_sb _
                      have js : (j : Int) ≤ (s.size : Int) := by omega
                      have ij : (i : Int) + 1 ≤ (j : Int) := by omega
                      have i4 : ((i : Int) + 1).toNat = i + 1 := by omega
                      have i5 : (0 : Int) ≤ (i : Int) + 1 := by omega
                      have i6 : IntKind.i64.wrap ((i : Int) + 1) = (i : Int) + 1 := by have := H64.out; rw [IntKind.wrap_i64]; omega
                      clear HA2 HG2
                      go_wp2_with fail
                      refine (HIn.out _).mono ?_
                      rintro e w2 ⟨rfl, hb2⟩
                      have HB2 : Hid (Below w.heap.size w w2) := HBr.out.trans (hb2.mono HBr.out.size)
                      clear hb2 HIn
                      cases hr : rintF (sb (s.extract (i + 1) j)) with
                      | bad q =>
                        have HF : Hid (namedF (sb s) = false) := by
                          show _ = _
                          rw [HTl.out, HSt.out]
                          cases hd : decimalF (sb (s.extract (i + 1) j)) with
                          | false => rfl
                          | true =>
                            obtain ⟨u, z, _, h2, _⟩ := HPc.out.1 hd
                            rw [hr] at h2
                            cases h2
                        have q0 : (0 : Int) ≤ (q : Int) := by omega
                        clear hr HPc HSt HPm
                        unfold rintV
                        go_wp2_with fail
                        go_quiet (fail)
                        go_wp2_with fail
                        go_ret
                        rw [HF.out]
                        exact ⟨rfl, bdn HB2.out _⟩
                      | ok u z =>
                        have HNb : Hid (∀ W, Calls Tryd.prog 14 #[.int .u64 (u : Int)] W fun e w' => ∃ v, e = .returned v ∧ Own w' W.heap.size v (decN u) ∧ Below W.heap.size W w') := fun W => rNumber_any rfl (rint_le hr) W
                        cases hd : decimalF (sb (s.extract (i + 1) j)) with
                        | true =>
                          have hE : mkS (decN u) = s.extract (i + 1) j := by
                            obtain ⟨u', z', _, h2, h3⟩ := HPc.out.1 hd
                            rw [hr] at h2
                            cases h2
                            rw [h3]
                            exact HPm.out
                          have HN : Hid (namedF (sb s) = tailN s j) := by show _ = _; rw [HTl.out, HSt.out, hd, Bool.true_and]
                          have HC : Hid ((mkS (decN u)).toList == (s.extract (i + 1) j).toList) := str_eq hE
                          clear hr hd HPc HSt HPm hE
                          unfold rintV
                          go_wp2_with fail
                          go_region_held (fun _ => True) (trivial) ((go_at_call 14; refine (HNb.out _).mono ?_; rintro e w3 ⟨v3, rfl, ho3, hb3⟩; have hcv := conv_str (ho3.sl (fun z hz => by have := decN_small u z hz; omega))))
                          have HB3 : Hid (Below w.heap.size w w3) := HB2.out.drew.trans (hb3.mono HB2.out.size)
                          have hc := HC.out
                          clear ho3 hb3 HNb HC
                          go_wp2_with fail
                          all_goals try (rename_i hcc; rw [hc] at hcc; exact absurd hcc (by decide))
                          exact ⟨⟨j, hj, rfl, HN, HB3⟩, by simp only [intOf, Int.toNat_natCast]; omega⟩
                        | false =>
                          have hE : ¬ mkS (decN u) = s.extract (i + 1) j := by
                            intro e
                            have h2 := (HPc.out.2 hd u z hr).2
                            have h3 := congrArg sb e
                            rw [sb_mkS (fun z hz => by have := decN_small u z hz; omega)] at h3
                            exact h2 h3
                          have HN : Hid (namedF (sb s) = false) := by show _ = _; rw [HTl.out, HSt.out, hd, Bool.false_and]
                          have HC : Hid (((mkS (decN u)).toList == (s.extract (i + 1) j).toList) = false) := str_ne hE
                          clear hr hd HPc HSt HPm hE
                          unfold rintV
                          go_wp2_with fail
                          go_region_held (fun _ => True) (trivial) ((go_at_call 14; refine (HNb.out _).mono ?_; rintro e w3 ⟨v3, rfl, ho3, hb3⟩; have hcv := conv_str (ho3.sl (fun z hz => by have := decN_small u z hz; omega))))
                          have HB3 : Hid (Below w.heap.size w w3) := HB2.out.drew.trans (hb3.mono HB2.out.size)
                          have hc1 := HC.out
                          clear ho3 hb3 HNb HC
                          go_wp2_with fail
                          all_goals try (rename_i hcc; rw [hc1] at hcc; exact absurd hcc (by decide))
                          go_ret
                          rw [HN.out]
                          exact ⟨rfl, HB3.out⟩
              · have ii : ¬ (i : Int) < (s.size : Int) := by omega
                have HF : Hid (namedF (sb s) = true) := by show _ = _; rw [HTl.out, tailN_end hi]
                go_wp2_with fail
                go_ret
                rw [HF.out]
                exact ⟨rfl, HBq.out⟩
        · have ik : ¬ (k : Int) < (s.size : Int) := by omega
          go_wp2_with fail
          refine HLg.out.mono ?_
          rintro e w1 ⟨rfl, rfl⟩
          clear HLg
          cases hlg : legalF (sb (s.extract 0 k)) with
          | false =>
            have HF : Hid (namedF (sb s) = false) := by show _ = _; rw [HE.out, hlg]; rfl
            clear hlg HE
            go_wp2_with fail
            go_ret
            rw [HF.out]
            exact ⟨rfl, HB.out⟩
          | true =>
            have HTl0 : Hid (namedF (sb s) = tailN s k) := by show _ = _; rw [HE.out, hlg]; rfl
            clear hlg HE HG
            go_wp2_with fail
            go_loopw [3] (fun iv wq => ∃ i : Nat, i ≤ s.size ∧ iv = .int .i64 (i : Int) ∧ Hid (namedF (sb s) = tailN s i) ∧ Hid (Below w.heap.size w wq)) (fun iv _ => s.size - (intOf iv).toNat)
            case atStart => exact ⟨k, hk, rfl, HTl0, HB⟩
            case round =>
              obtain ⟨i, hi0, rfl, HTl, HBq⟩ := hrel
              clear HTl0
              by_cases hi : i < s.size
              · have ii : (i : Int) < (s.size : Int) := by omega
                go_wp2_with fail
                go_loopw [4] (fun jv wr2 => ∃ j : Nat, i + 1 ≤ j ∧ j ≤ s.size ∧ jv = .int .i64 (j : Int) ∧ Hid (∀ t, i + 1 ≤ t → t < j → (sb s).getD t 0 ≠ 46) ∧ Hid (Below w.heap.size w wr2)) (fun jv _ => s.size - (intOf jv).toNat)
                case atStart => exact ⟨i + 1, Nat.le_refl _, by omega, by go_num, fun t h1 h2 => absurd h1 (by omega), HBq⟩
                case round =>
                  obtain ⟨j, hij, hj, rfl, HA2, HBr⟩ := hrel
                  by_cases hgo2 : j < s.size ∧ (sb s).getD j 0 ≠ 46
                  · obtain ⟨hlt2, hne2⟩ := hgo2
                    rw [sb_get s j hlt2] at hne2
                    have p462 : ((s[j].toNat : Int) == 46) = false := beq_eq_false_iff_ne.2 (by omega)
                    have ij2 : (j : Int) < (s.size : Int) := by omega
                    have HN2 : Hid (∀ t, i + 1 ≤ t → t < j + 1 → (sb s).getD t 0 ≠ 46) := by
                      intro t h1 h2
                      by_cases e : t = j
                      · rw [e, sb_get s j hlt2]; exact hne2
                      · exact HA2.out t h1 (by omega)
                    clear hne2 HA2
                    go_wp2_with fail
                    exact ⟨⟨j + 1, by omega, by omega, by go_num, HN2, HBr⟩, by simp [intOf]; omega⟩
                  · have HG2 : Hid (¬ (j < s.size ∧ (sb s).getD j 0 ≠ 46)) := hgo2
                    clear hgo2
                    by_cases hlt2 : j < s.size
                    · have p462 : ((s[j].toNat : Int) == 46) = true := by
                        have : (sb s).getD j 0 = 46 := Classical.byContradiction fun e => HG2.out ⟨hlt2, e⟩
                        rw [sb_get s j hlt2] at this
                        rw [this]
                        rfl
                      have ij2 : (j : Int) < (s.size : Int) := by omega
                      have HSt : Hid (tailN s i = (decimalF (sb (s.extract (i + 1) j)) && tailN s j)) := tail_step hi hij hj HA2.out (fun h => Classical.byContradiction fun e => HG2.out ⟨h, e⟩)
                      have HIn : Hid (∀ W, Calls Tryd.prog 24 #[.string (s.extract (i + 1) j)] W fun e w' => e = .returned (rintV (rintF (sb (s.extract (i + 1) j)))) ∧ Below W.heap.size W w') := fun W => rInteger_any _ (by have := H64.out; rw [ByteArray.size_extract]; omega)
                      have HPc := Lib.hid (piece_is (sb_small (s.extract (i + 1) j)))
                      have HPm : Hid (mkS (sb (s.extract (i + 1) j)) = s.extract (i + 1) j) := mkS_sb _
                      have js : (j : Int) ≤ (s.size : Int) := by omega
                      have ij : (i : Int) + 1 ≤ (j : Int) := by omega
                      have i4 : ((i : Int) + 1).toNat = i + 1 := by omega
                      have i5 : (0 : Int) ≤ (i : Int) + 1 := by omega
                      have i6 : IntKind.i64.wrap ((i : Int) + 1) = (i : Int) + 1 := by have := H64.out; rw [IntKind.wrap_i64]; omega
                      clear HA2 HG2
                      go_wp2_with fail
                      refine (HIn.out _).mono ?_
                      rintro e w2 ⟨rfl, hb2⟩
                      have HB2 : Hid (Below w.heap.size w w2) := HBr.out.trans (hb2.mono HBr.out.size)
                      clear hb2 HIn
                      cases hr : rintF (sb (s.extract (i + 1) j)) with
                      | bad q =>
                        have HF : Hid (namedF (sb s) = false) := by
                          show _ = _
                          rw [HTl.out, HSt.out]
                          cases hd : decimalF (sb (s.extract (i + 1) j)) with
                          | false => rfl
                          | true =>
                            obtain ⟨u, z, _, h2, _⟩ := HPc.out.1 hd
                            rw [hr] at h2
                            cases h2
                        have q0 : (0 : Int) ≤ (q : Int) := by omega
                        clear hr HPc HSt HPm
                        unfold rintV
                        go_wp2_with fail
                        go_quiet (fail)
                        go_wp2_with fail
                        go_ret
                        rw [HF.out]
                        exact ⟨rfl, bdn HB2.out _⟩
                      | ok u z =>
                        have HNb : Hid (∀ W, Calls Tryd.prog 14 #[.int .u64 (u : Int)] W fun e w' => ∃ v, e = .returned v ∧ Own w' W.heap.size v (decN u) ∧ Below W.heap.size W w') := fun W => rNumber_any rfl (rint_le hr) W
                        cases hd : decimalF (sb (s.extract (i + 1) j)) with
                        | true =>
                          have hE : mkS (decN u) = s.extract (i + 1) j := by
                            obtain ⟨u', z', _, h2, h3⟩ := HPc.out.1 hd
                            rw [hr] at h2
                            cases h2
                            rw [h3]
                            exact HPm.out
                          have HN : Hid (namedF (sb s) = tailN s j) := by show _ = _; rw [HTl.out, HSt.out, hd, Bool.true_and]
                          have HC : Hid ((mkS (decN u)).toList == (s.extract (i + 1) j).toList) := str_eq hE
                          clear hr hd HPc HSt HPm hE
                          unfold rintV
                          go_wp2_with fail
                          go_region_held (fun _ => True) (trivial) ((go_at_call 14; refine (HNb.out _).mono ?_; rintro e w3 ⟨v3, rfl, ho3, hb3⟩; have hcv := conv_str (ho3.sl (fun z hz => by have := decN_small u z hz; omega))))
                          have HB3 : Hid (Below w.heap.size w w3) := HB2.out.drew.trans (hb3.mono HB2.out.size)
                          have hc := HC.out
                          clear ho3 hb3 HNb HC
                          go_wp2_with fail
                          all_goals try (rename_i hcc; rw [hc] at hcc; exact absurd hcc (by decide))
                          exact ⟨⟨j, hj, rfl, HN, HB3⟩, by simp only [intOf, Int.toNat_natCast]; omega⟩
                        | false =>
                          have hE : ¬ mkS (decN u) = s.extract (i + 1) j := by
                            intro e
                            have h2 := (HPc.out.2 hd u z hr).2
                            have h3 := congrArg sb e
                            rw [sb_mkS (fun z hz => by have := decN_small u z hz; omega)] at h3
                            exact h2 h3
                          have HN : Hid (namedF (sb s) = false) := by show _ = _; rw [HTl.out, HSt.out, hd, Bool.false_and]
                          have HC : Hid (((mkS (decN u)).toList == (s.extract (i + 1) j).toList) = false) := str_ne hE
                          clear hr hd HPc HSt HPm hE
                          unfold rintV
                          go_wp2_with fail
                          go_region_held (fun _ => True) (trivial) ((go_at_call 14; refine (HNb.out _).mono ?_; rintro e w3 ⟨v3, rfl, ho3, hb3⟩; have hcv := conv_str (ho3.sl (fun z hz => by have := decN_small u z hz; omega))))
                          have HB3 : Hid (Below w.heap.size w w3) := HB2.out.drew.trans (hb3.mono HB2.out.size)
                          have hc1 := HC.out
                          clear ho3 hb3 HNb HC
                          go_wp2_with fail
                          all_goals try (rename_i hcc; rw [hc1] at hcc; exact absurd hcc (by decide))
                          go_ret
                          rw [HN.out]
                          exact ⟨rfl, HB3.out⟩
                    · have ij2 : ¬ (j : Int) < (s.size : Int) := by omega
                      have HSt : Hid (tailN s i = (decimalF (sb (s.extract (i + 1) j)) && tailN s j)) := tail_step hi hij hj HA2.out (fun h => Classical.byContradiction fun e => HG2.out ⟨h, e⟩)
                      have HIn : Hid (∀ W, Calls Tryd.prog 24 #[.string (s.extract (i + 1) j)] W fun e w' => e = .returned (rintV (rintF (sb (s.extract (i + 1) j)))) ∧ Below W.heap.size W w') := fun W => rInteger_any _ (by have := H64.out; rw [ByteArray.size_extract]; omega)
                      have HPc := Lib.hid (piece_is (sb_small (s.extract (i + 1) j)))
                      have HPm : Hid (mkS (sb (s.extract (i + 1) j)) = s.extract (i + 1) j) := mkS_sb _
                      have js : (j : Int) ≤ (s.size : Int) := by omega
                      have ij : (i : Int) + 1 ≤ (j : Int) := by omega
                      have i4 : ((i : Int) + 1).toNat = i + 1 := by omega
                      have i5 : (0 : Int) ≤ (i : Int) + 1 := by omega
                      have i6 : IntKind.i64.wrap ((i : Int) + 1) = (i : Int) + 1 := by have := H64.out; rw [IntKind.wrap_i64]; omega
                      clear HA2 HG2
                      go_wp2_with fail
                      refine (HIn.out _).mono ?_
                      rintro e w2 ⟨rfl, hb2⟩
                      have HB2 : Hid (Below w.heap.size w w2) := HBr.out.trans (hb2.mono HBr.out.size)
                      clear hb2 HIn
                      cases hr : rintF (sb (s.extract (i + 1) j)) with
                      | bad q =>
                        have HF : Hid (namedF (sb s) = false) := by
                          show _ = _
                          rw [HTl.out, HSt.out]
                          cases hd : decimalF (sb (s.extract (i + 1) j)) with
                          | false => rfl
                          | true =>
                            obtain ⟨u, z, _, h2, _⟩ := HPc.out.1 hd
                            rw [hr] at h2
                            cases h2
                        have q0 : (0 : Int) ≤ (q : Int) := by omega
                        clear hr HPc HSt HPm
                        unfold rintV
                        go_wp2_with fail
                        go_quiet (fail)
                        go_wp2_with fail
                        go_ret
                        rw [HF.out]
                        exact ⟨rfl, bdn HB2.out _⟩
                      | ok u z =>
                        have HNb : Hid (∀ W, Calls Tryd.prog 14 #[.int .u64 (u : Int)] W fun e w' => ∃ v, e = .returned v ∧ Own w' W.heap.size v (decN u) ∧ Below W.heap.size W w') := fun W => rNumber_any rfl (rint_le hr) W
                        cases hd : decimalF (sb (s.extract (i + 1) j)) with
                        | true =>
                          have hE : mkS (decN u) = s.extract (i + 1) j := by
                            obtain ⟨u', z', _, h2, h3⟩ := HPc.out.1 hd
                            rw [hr] at h2
                            cases h2
                            rw [h3]
                            exact HPm.out
                          have HN : Hid (namedF (sb s) = tailN s j) := by show _ = _; rw [HTl.out, HSt.out, hd, Bool.true_and]
                          have HC : Hid ((mkS (decN u)).toList == (s.extract (i + 1) j).toList) := str_eq hE
                          clear hr hd HPc HSt HPm hE
                          unfold rintV
                          go_wp2_with fail
                          go_region_held (fun _ => True) (trivial) ((go_at_call 14; refine (HNb.out _).mono ?_; rintro e w3 ⟨v3, rfl, ho3, hb3⟩; have hcv := conv_str (ho3.sl (fun z hz => by have := decN_small u z hz; omega))))
                          have HB3 : Hid (Below w.heap.size w w3) := HB2.out.drew.trans (hb3.mono HB2.out.size)
                          have hc := HC.out
                          clear ho3 hb3 HNb HC
                          go_wp2_with fail
                          all_goals try (rename_i hcc; rw [hc] at hcc; exact absurd hcc (by decide))
                          exact ⟨⟨j, hj, rfl, HN, HB3⟩, by simp only [intOf, Int.toNat_natCast]; omega⟩
                        | false =>
                          have hE : ¬ mkS (decN u) = s.extract (i + 1) j := by
                            intro e
                            have h2 := (HPc.out.2 hd u z hr).2
                            have h3 := congrArg sb e
                            rw [sb_mkS (fun z hz => by have := decN_small u z hz; omega)] at h3
                            exact h2 h3
                          have HN : Hid (namedF (sb s) = false) := by show _ = _; rw [HTl.out, HSt.out, hd, Bool.false_and]
                          have HC : Hid (((mkS (decN u)).toList == (s.extract (i + 1) j).toList) = false) := str_ne hE
                          clear hr hd HPc HSt HPm hE
                          unfold rintV
                          go_wp2_with fail
                          go_region_held (fun _ => True) (trivial) ((go_at_call 14; refine (HNb.out _).mono ?_; rintro e w3 ⟨v3, rfl, ho3, hb3⟩; have hcv := conv_str (ho3.sl (fun z hz => by have := decN_small u z hz; omega))))
                          have HB3 : Hid (Below w.heap.size w w3) := HB2.out.drew.trans (hb3.mono HB2.out.size)
                          have hc1 := HC.out
                          clear ho3 hb3 HNb HC
                          go_wp2_with fail
                          all_goals try (rename_i hcc; rw [hc1] at hcc; exact absurd hcc (by decide))
                          go_ret
                          rw [HN.out]
                          exact ⟨rfl, HB3.out⟩
              · have ii : ¬ (i : Int) < (s.size : Int) := by omega
                have HF : Hid (namedF (sb s) = true) := by show _ = _; rw [HTl.out, tailN_end hi]
                go_wp2_with fail
                go_ret
                rw [HF.out]
                exact ⟨rfl, HBq.out⟩
end Go.Proofs.YtkddfhnfhncgpaaDoor
