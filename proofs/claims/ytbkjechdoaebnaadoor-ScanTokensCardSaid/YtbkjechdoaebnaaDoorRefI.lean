/- ScanTokens: Roomy, Within, told, the walk. -/
import Derived.Test.YtbkjechdoaebnaaDoorRefH
namespace Go.Proofs.YtbkjechdoaebnaaDoor
open Go.RowKit Sc
set_option maxRecDepth 100000 in
set_option maxHeartbeats 2000000 in
theorem roomyB_any {v : Value} {p : List Nat} {m : Nat} {w : World} (hv : Sl w v p) (hp : p.length ≤ 140737488351232) :
    Calls Tryd.prog 27 #[v, .int .u8 ((m : Nat) : Int)] w fun e w' => e = .returned (.slice (some ⟨w.heap.size, 0, none⟩) (p.length + 80) (p.length + 80)) ∧ Row w' w.heap.size (roomed p m) ∧ Below w.heap.size w w' := by
  obtain ⟨ao, cap, rfl, h1, h2, h3, h4, h5⟩ := hv
  obtain ⟨i, hi, hz0, hz1, hz2⟩ := info_parts info_byte
  have H5 : Hid (∀ i, i < p.length → ∃ b o, ao = some ⟨b, o, none⟩ ∧ w.cell? ⟨b, o + i, none⟩ = some (.int .u8 (p.getD i 0 : Nat))) := h5
  have H3 : Hid (∀ z ∈ p, z < 256) := h3
  clear h3 h4 h5
  go_enter Tryd.func27, Tryd.ntmps27
  go_wp2_with (at_make; refine wpList_make_full _ rfl _ _ 26 rfl w.heap.size 5 i (.int .u8 0) 1 Tryd.underlying26 hi hz0 hz1 _ _ _ _ (p.length + 80) rfl rfl (by omega) (by omega) (by rw [hz2]; omega) (by simp only [maxLen]; omega) (Nat.le_refl _) ?_)
  intro w1 hown hgrow
  have hr0 : Row w1 w.heap.size (List.replicate (p.length + 80) 0) := row_made hown
  have hb1 : Below w.heap.size w w1 := (Below.refl _ _).grown hgrow (Nat.le_refl _) (by simp)
  have HR0 : Hid (Row w1 w.heap.size (List.replicate (p.length + 80) 0)) := hr0
  have HB1 : Hid (Below w.heap.size w w1) := hb1
  clear hown hgrow hr0 hb1
  have hsz : (Tryd.prog.info? 5).map (·.size) = some 1 := by rw [hi, Option.map_some, hz1]
  have hpos : 0 < (bvs p).length → (some ⟨w.heap.size, 0, none⟩ : Option Addr) = some ⟨w.heap.size, 0, none⟩ ∧ ∃ ad, ao = some ad ∧ ∀ j v, (bvs p)[j]? = some v → w1.cell? (ad.add j) = some v := by
    intro hp0
    rw [bvs_length] at hp0
    obtain ⟨b, o, e, _⟩ := H5.out 0 hp0
    refine ⟨rfl, ⟨b, o, none⟩, e, fun j v hj => ?_⟩
    have hjl : j < p.length := by simpa [bvs_length] using (List.getElem?_eq_some_iff.1 hj).1
    obtain ⟨b', o', e', hc⟩ := H5.out j hjl
    rw [e] at e'
    cases e'
    rw [bvs_get p j hjl] at hj
    rw [Addr.add_lit, HB1.out.cell (p := ⟨b, o + j, none⟩) (World.block_lt_of_cell? w _ hc), hc, hj]
  have HP := hpos
  have HPos : Hid (0 < (bvs p).length → (some ⟨w.heap.size, 0, none⟩ : Option Addr) = some ⟨w.heap.size, 0, none⟩ ∧ ∃ ad, ao = some ad ∧ ∀ j v, (bvs p)[j]? = some v → w1.cell? (ad.add j) = some v) := hpos
  have HSz : Hid ((Tryd.prog.info? 5).map (·.size) = some 1) := hsz
  have hpl := bvs_length p
  have HPl : Hid ((bvs p).length = p.length) := hpl
  clear hpos HP hsz hpl
  go_wp2_with (refine wpList_copy_splice rfl (.tmp 11) (.tmp 12) 26 26 rfl 5 Tryd.underlying26 HSz.out _ ao _ _ p.length cap rfl rfl w.heap.size 0 (bvs (List.replicate (p.length + 80) 0)) 5 HR0.out (bvs p) (by rw [HPl.out]; exact (Nat.min_eq_left (by omega)).symm) HPos.out (by rw [HPl.out, bvs_length, List.length_replicate]; omega) (bvs_one p) w.heap.size w HB1.out (Nat.le_refl _) ?_)
  intro w2 HG2 hB2
  have HR2 : Hid (Row w2 w.heap.size (fillTo p m 0)) := by
    have e := splice_front (p.length + 80) p
    rw [Nat.add_sub_cancel_left] at e
    have h := HG2.out
    rw [e] at h
    exact h
  have HB2 : Hid (Below w.heap.size w w2) := hB2
  have HB2' : Hid (Below w.heap.size w w2) := hB2
  clear hB2 HG2 HPos HSz HPl HR0 HB1 H5 H3
  go_wp2
  go_loopw [6] (fun i wr => ∃ k : Nat, k ≤ 80 ∧ i = .int .i64 ((p.length + k : Nat) : Int) ∧ Hid (Row wr w.heap.size (fillTo p m k)) ∧ Hid (Below w.heap.size w wr)) (fun i _ => p.length + 80 - (intOf i).toNat)
  case atStart => exact ⟨0, by omega, rfl, HR2, HB2⟩
  case round =>
    obtain ⟨k, hk, rfl, HR, HB⟩ := hrel
    by_cases hlt : k < 80
    · have hcell := HR.out.cell (p.length + k) (by rw [fillTo_length p m k hk]; omega)
      have hthaw := HR.out.thawed (p.length + k)
      generalize (fillTo p m k).getD (p.length + k) 0 = z at hcell
      go_wp2
      go_roundw
      case rel =>
        refine ⟨k + 1, by omega, by go_num, ?_, HB.out.setCell (Nat.le_refl _) _⟩
        have h := HR.out.set (p.length + k) m
        rw [fillTo_set p m k hlt] at h
        exact h
      case measure => simp [intOf]; omega
    · have HE : Hid (k = 80) := (by omega : k = 80)
      go_wp2
      go_ret
      refine ⟨rfl, ?_, HB.out⟩
      have h := HR.out
      rw [HE.out, fillTo_end] at h
      exact h
set_option maxRecDepth 100000 in
set_option maxHeartbeats 4000000 in
theorem bookWithin_any {n : Int} {hi : Nat} (hh : hi ≤ 140737488351232) (w : World) :
    Calls Tryd.prog 12 #[.int .i64 n, .int .i64 0, .int .i64 (hi : Int)] w fun e w' => ∃ r : Nat, e = .returned (.int .i64 (r : Int)) ∧ r ≤ hi ∧ w = w' := by
  obtain ⟨q, hq⟩ : ∃ q, q = n.tmod ((hi : Int) + 1) := ⟨_, rfl⟩
  have hq1 : -((hi : Int) + 1) < q ∧ q < (hi : Int) + 1 := by
    have := Int.tmod_lt_of_pos n (b := (hi : Int) + 1) (by omega)
    have := Int.lt_tmod_of_pos n (b := (hi : Int) + 1) (by omega)
    omega
  have hne : (hi : Int) + 1 ≠ 0 := by omega
  go_enter Tryd.func12, Tryd.ntmps12
  go_wp2_with fail
  all_goals (go_ret; rw [← hq] at *)
  · exact ⟨(q + hi + 1).toNat, by rw [Int.toNat_of_nonneg (by omega)]; rfl, by omega, rfl⟩
  · exact ⟨q.toNat, by rw [Int.toNat_of_nonneg (by omega)]; rfl, by omega, rfl⟩
theorem toksF_count : ∀ (f a : Nat) (l : List Nat) (ts : List Tok), toksF f a l = .ok ts → ts.length ≤ l.length
  | 0, a, l, ts, h => by cases h
  | f + 1, a, l, ts, h => by
    rw [toksF_tail] at h
    have hle := Sc.skipN_le false l
    have hdl : (l.drop (skipN false l)).length ≤ l.length := by rw [List.length_drop]; omega
    generalize l.drop (skipN false l) = m at *
    by_cases hm : m = []
    · rw [tail_end hm] at h
      cases h
      exact Nat.zero_le _
    · unfold tailT at h
      rw [if_neg (by simpa using hm)] at h
      cases hx : lexF m with
      | bad k => rw [hx] at h; cases h
      | ok x k =>
        rw [hx] at h
        simp only at h
        cases ht : toksF f (a + skipN false l + k) (m.drop k) with
        | error p => rw [ht] at h; cases h
        | ok us =>
          rw [ht] at h
          cases h
          have := toksF_count f _ _ _ ht
          obtain ⟨h1, h2⟩ := Sc.lex_len hx
          rw [List.length_drop] at this
          simp only [List.length_append, List.length_cons, List.length_nil]
          omega
theorem tokens_count (l : List Nat) : (tokens l).1.length ≤ 1048576 := by
  by_cases h : 1048576 < l.length
  · unfold tokens
    rw [if_pos h]
    exact Nat.zero_le _
  · rw [tokens_eq h]
    cases ht : toksF (l.length + 1) 0 l with
    | error p => exact Nat.zero_le _
    | ok us => have := toksF_count _ _ _ _ ht; show us.length ≤ _; omega
set_option maxRecDepth 100000 in
set_option maxHeartbeats 1000000 in
theorem told_any {w : World} {v : Value} {zs : List Nat} (ht : Tabs w) (hr : RTabs w) (h9 : 9 ≤ w.heap.size) (hs : Sl w v zs) (hl : zs.length ≤ 140737488351232) :
    Calls Tryd.prog 11 #[v] w fun e w' => e = .returned (.bool true) ∧ Below w.heap.size w w' := by
  have HT : Hid (Tabs w) := ht
  have HRt : Hid (RTabs w) := hr
  have HS : Hid (Sl w v zs) := hs
  have HCn : Hid ((tokens zs).1.length ≤ 1048576) := tokens_count zs
  have HRo : Hid (Calls Tryd.prog 27 #[v, .int .u8 165] w fun e w' => e = .returned (.slice (some ⟨w.heap.size, 0, none⟩) (zs.length + 80) (zs.length + 80)) ∧ Row w' w.heap.size (roomed zs 165) ∧ Below w.heap.size w w') := roomyB_any (m := 165) hs hl
  have hlen := hs.len
  obtain ⟨ao, cap, rfl, hc1, hc2, _⟩ := id hs
  unfold maxLen at hlen hc2
  clear ht hr hs
  go_enter Tryd.func11, Tryd.ntmps11
  go_wp2_with fail
  refine HRo.out.mono ?_
  rintro e w1 ⟨rfl, hrow, hb1⟩
  have hsm := roomed_small HS.out.small (m := 165) (by decide)
  have hrl := roomed_length zs 165
  have hfull : Sl w1 (.slice (some ⟨w.heap.size, 0, none⟩) (zs.length + 80) (zs.length + 80)) (roomed zs 165) := by
    have h := hrow.sl hsm 0 (zs.length + 80) (zs.length + 80) (by omega) (Nat.le_refl _) (by unfold maxLen; omega)
    rw [List.drop_zero, List.take_of_length_le (by omega)] at h
    exact h
  have hpart : Sl w1 (.slice (some ⟨w.heap.size, 0, none⟩) zs.length (zs.length + 80)) zs := by
    have h := hrow.sl hsm 0 zs.length (zs.length + 80) (by omega) (by omega) (by unfold maxLen; omega)
    rw [List.drop_zero, roomed_take] at h
    exact h
  have HFu : Hid (Sl w1 (.slice (some ⟨w.heap.size, 0, none⟩) (zs.length + 80) (zs.length + 80)) (roomed zs 165)) := hfull
  have HB1 : Hid (Below w.heap.size w w1) := hb1
  have HTk : Hid (Calls Tryd.prog 9 #[.slice (some ⟨w.heap.size, 0, none⟩) zs.length (zs.length + 80)] w1 fun e w' => ∃ lv, e = .returned (.tuple #[lv, .int .i64 ((Sc.tokens zs).2.1 : Nat), .int .i64 ((Sc.tokens zs).2.2 : Nat)]) ∧ OwnT w' w1.heap.size lv (Sc.tokens zs).1 ∧ Below w1.heap.size w1 w') := tokens_any (HT.out.below hb1) hpart (fun k hk => by cases hk; exact hrow.lt) (Nat.le_trans h9 hb1.size)
  clear HRo hrow hsm hrl hfull hpart hb1
  go_wp2_with fail
  refine HTk.out.mono ?_
  rintro e w2 ⟨lv, rfl, ho2, hb2⟩
  have HB2 : Hid (Below w.heap.size w w2) := HB1.out.trans (hb2.mono HB1.out.size)
  have HF2 : Hid (Sl w2 (.slice (some ⟨w.heap.size, 0, none⟩) (zs.length + 80) (zs.length + 80)) (roomed zs 165)) := HFu.out.below hb2
  have HO2 : Hid (OwnT w2 w1.heap.size lv (Sc.tokens zs).1) := ho2
  have HRk : Hid (Calls Tryd.prog 28 #[.slice ao zs.length cap] w2 fun e w' => ∃ lv, e = .returned (.tuple #[lv, .int .i64 ((Sc.tokens zs).2.1 : Nat), .int .i64 ((Sc.tokens zs).2.2 : Nat)]) ∧ OwnT w' w2.heap.size lv (Sc.tokens zs).1 ∧ Below w2.heap.size w2 w') := rTokens_any (HRt.out.below HB2.out) (HS.out.below HB2.out)
  clear HTk HFu ho2 hb2 HB1
  go_wp2_with fail
  refine HRk.out.mono ?_
  rintro e w3 ⟨mv, rfl, ho3, hb3⟩
  have HB3 : Hid (Below w.heap.size w w3) := HB2.out.trans (hb3.mono HB2.out.size)
  have HF3 : Hid (Sl w3 (.slice (some ⟨w.heap.size, 0, none⟩) (zs.length + 80) (zs.length + 80)) (roomed zs 165)) := HF2.out.below hb3
  have HSm : Hid (Calls Tryd.prog 29 #[lv, mv] w3 fun e w' => e = .returned (.bool true) ∧ Below w3.heap.size w3 w') := sameT_any (HO2.out.below hb3) ho3 HCn.out
  clear HRk HF2 HO2 ho3 hb3 HB2 HCn
  generalize (Sc.tokens zs).2.1 = A at *
  generalize (Sc.tokens zs).2.2 = E at *
  go_wp2_with fail
  refine HSm.out.mono ?_
  rintro e w4 ⟨rfl, hb4⟩
  have HB4 : Hid (Below w.heap.size w w4) := HB3.out.trans (hb4.mono HB3.out.size)
  have HIn : Hid (Calls Tryd.prog 30 #[.slice (some ⟨w.heap.size, 0, none⟩) (zs.length + 80) (zs.length + 80), .slice ao zs.length cap, .int .u8 165] w4 fun e w' => e = .returned (.bool true) ∧ Below w4.heap.size w4 w') := intact_any (m := 165) (HF3.out.below hb4) (HS.out.below HB4.out)
  clear HSm HF3 HB3 hb4
  go_wp2_with fail
  refine HIn.out.mono ?_
  rintro e w5 ⟨rfl, hb5⟩
  go_wp2_with fail
  go_ret
  exact ⟨rfl, HB4.out.trans (hb5.mono HB4.out.size)⟩
end Go.Proofs.YtbkjechdoaebnaaDoor
