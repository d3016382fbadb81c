/- WordSums: the walk. -/
import Derived.Test.YtphlfkkbkkocmaaDoorOwnMem
import Derived.Test.YtphlfkkbkkocmaaDoorRefCrc
namespace Go.Proofs.YtphlfkkbkkocmaaDoor
open Go.RowKit
namespace Pl
theorem fold_append (xs ys : List Nat) (r : Nat) : (xs ++ ys).foldl stepB r = ys.foldl stepB (xs.foldl stepB r) := List.foldl_append
theorem more_crc (xs ys : List Nat) : more (crc xs) ys = crc (xs ++ ys) := by
  unfold crc more
  rw [fold_append, ← Nat.xor_assoc, Nat.xor_self, Nat.zero_xor]
/-- the first k bytes with some bits turned -/
def turnTo (p : List Nat) (k : Nat) : List Nat := (p.take k).map (fun z => z ^^^ 90) ++ p.drop k
theorem turnTo_zero (p : List Nat) : turnTo p 0 = p := by simp [turnTo]
theorem turnTo_length (p : List Nat) (k : Nat) : (turnTo p k).length = p.length := by simp [turnTo]; omega
theorem turnTo_get (p : List Nat) (k : Nat) (h : k < p.length) : (turnTo p k).getD k 0 = p.getD k 0 := by
  rw [turnTo, List.getD_eq_getElem?_getD, List.getElem?_append_right (by simp; omega)]
  simp [Nat.min_eq_left (Nat.le_of_lt h), List.getD_eq_getElem?_getD]
theorem turnTo_set (p : List Nat) (k : Nat) (h : k < p.length) : (turnTo p k).set k (p.getD k 0 ^^^ 90) = turnTo p (k + 1) := by
  have e1 : p.getD k 0 = p[k] := by rw [List.getD_eq_getElem?_getD, List.getElem?_eq_getElem h]; rfl
  have e2 : k - ((p.take k).map (fun z => z ^^^ 90)).length = 0 := by simp; omega
  have e3 : p.take (k + 1) = p.take k ++ [p[k]] := List.take_succ_eq_append_getElem h
  unfold turnTo
  rw [List.set_append_right _ _ (by simp; omega), e2, e1, e3, List.map_append, List.append_assoc, List.drop_eq_getElem_cons h, List.set_cons_zero]
  rfl
theorem turn_small {p : List Nat} (hp : ∀ z ∈ p, z < 256) (k : Nat) : ∀ z ∈ turnTo p k, z < 256 := by
  intro z hz
  rcases List.mem_append.1 hz with h | h
  · obtain ⟨y, hy, rfl⟩ := List.mem_map.1 h
    exact Nat.xor_lt_two_pow (n := 8) (hp y (List.mem_of_mem_take hy)) (by decide)
  · exact hp z (List.mem_of_mem_drop h)
end Pl
theorem roomed_set (L : List Nat) (m i u : Nat) (h : i < L.length) : (roomed L m).set i u = roomed (L.set i u) m := by
  unfold roomed
  rw [List.set_append_left _ _ h]
set_option maxRecDepth 100000 in
set_option maxHeartbeats 2000000 in
theorem sums_yes (p q : List Nat) (s : Nat) (ao bo : Option Addr) (ca cb : Nat) (w : World) (ht : Tab w) (hp : Sl w (.slice ao p.length ca) p) (hq : Sl w (.slice bo q.length cb) q) (hs : s < 4294967296) (hle : p.length + q.length ≤ 2147483647) :
    Calls Tryd.prog 4 #[.slice ao p.length ca, .slice bo q.length cb, .int .u32 s] w fun e w' => e = .returned (.bool true) ∧ Below w.heap.size w w' := by
  have HT : Hid (Tab w) := ht
  have HP : Hid (Sl w (.slice ao p.length ca) p) := hp
  have HQ : Hid (Sl w (.slice bo q.length cb) q) := hq
  clear ht hp hq
  go_enter Tryd.func4, Tryd.ntmps4
  go_wp2_with fail
  refine (beyond2_no p.length q.length _ _ _ hle (by simp) (by simp)).mono ?_
  rintro e w1 ⟨rfl, hw1⟩
  have HB1 : Hid (Below w.heap.size w w1) := by rw [hw1]; exact (Below.refl _ _).alloc (Nat.le_refl _) _
  clear hw1
  have HP1 : Hid (Sl w1 (.slice ao p.length ca) p) := HP.out.below HB1.out
  have HQ1 : Hid (Sl w1 (.slice bo q.length cb) q) := HQ.out.below HB1.out
  have HT1 : Hid (Tab w1) := HT.out.below HB1.out
  have hroom : Hid (Calls Tryd.prog 27 #[.slice ao p.length ca, .int .u8 165] w1 fun e w' => e = .returned (.slice (some ⟨w1.heap.size, 0, none⟩) (p.length + 80) (p.length + 80)) ∧ Row w' w1.heap.size (roomed p 165) ∧ Below w1.heap.size w1 w') := roomy_any (m := 165) HP1.out (by omega)
  go_wp2_with fail
  refine hroom.out.mono ?_
  rintro e w2 ⟨rfl, hrow, hb2⟩
  clear hroom
  obtain ⟨g, hg⟩ : ∃ g, w1.heap.size = g := ⟨_, rfl⟩
  have HGw : Hid (w.heap.size ≤ g) := by rw [← hg]; exact HB1.out.size
  have HB2 : Hid (Below w.heap.size w w2) := HB1.out.trans (hb2.mono HB1.out.size)
  have HP2 : Hid (Sl w2 (.slice ao p.length ca) p) := HP1.out.below hb2
  have HQ2 : Hid (Sl w2 (.slice bo q.length cb) q) := HQ1.out.below hb2
  have HT2 : Hid (Tab w2) := HT1.out.below hb2
  have HS := HP.out.small
  have HSm : Hid (∀ z ∈ p, z < 256) := HS
  have hpl : p.length ≤ 2147483647 := by omega
  clear HS hb2 HP1 HQ1 HT1 HB1 HP HQ
  rw [hg] at hrow ⊢
  have HR2 : Hid (Row w2 g (roomed p 165)) := hrow
  clear hrow hg
  have hfs : Sl w2 (.slice (some ⟨g, 0, none⟩) p.length (p.length + 80)) p := by
    have h := HR2.out.sl (roomed_small HSm.out (by decide)) 0 p.length (p.length + 80) (by rw [roomed_length]; omega) (by omega) (by unfold maxLen; omega)
    rwa [List.drop_zero, roomed_take] at h
  have HFS : Hid (Sl w2 (.slice (some ⟨g, 0, none⟩) p.length (p.length + 80)) p) := hfs
  clear hfs
  go_wp2_with fail
  refine (crc_any HT2.out HFS.out).mono ?_
  rintro e w' ⟨rfl, hw⟩
  rw [hw]
  clear hw w'
  go_wp2_with fail
  refine (refcrc_any HP2.out).mono ?_
  rintro e w' ⟨rfl, hw⟩
  rw [hw]
  clear hw w'
  go_wp2_with fail
  have HMQ : Hid (Calls Tryd.prog 29 #[.int .u32 (Pl.crc p : Nat), .slice bo q.length cb] w2 fun e w' => e = .returned (.int .u32 (Pl.crc (p ++ q) : Nat)) ∧ w' = w2) := by
    have h := more_any HT2.out (Pl.more_lt (by decide) HSm.out) HQ2.out (s := Pl.crc p)
    rw [Pl.more_crc] at h
    exact h
  refine HMQ.out.mono ?_
  rintro e w' ⟨rfl, hw⟩
  rw [hw]
  clear hw w' HMQ
  go_wp2_with (first
    | (at_builtin; refine wpList_append_sl (v := .slice none 0 0) (.const (.slice none 0 0)) (.tmp 32) (by rfl) rfl rfl (own_nil w2 w2.heap.size) rfl HP2.out (by simp only [List.length_nil]; omega) (Nat.le_refl _) ?_; intro v3 w3 h3 g3 l3; have B3 : Hid (Below w2.heap.size w2 w3) := below_grown g3 (Nat.le_refl _) (fun k hk => by cases hk); have H3 : Hid (Own w3 w2.heap.size v3 p) := h3; clear h3 g3 l3)
    | (at_builtin; refine wpList_append_sl (v := v3) (.tmp 33) (.tmp 34) (by rfl) rfl rfl H3.out rfl (HQ2.out.below B3.out) (by omega) B3.out.size ?_; intro v4 w4 h4 g4 l4; have B4 : Hid (Below w2.heap.size w2 w4) := B3.out.trans (below_grown g4 B3.out.size (fun k hk => (H3.out.lt k hk).1)); have H4 : Hid (Own w4 w2.heap.size v4 (p ++ q)) := h4; clear h4 g4 l4))
  refine (refcrc_any (H4.out.sl (fun z hz => (List.mem_append.1 hz).elim (HSm.out z) (HQ2.out.small z)))).mono ?_
  rintro e w' ⟨rfl, hw⟩
  rw [hw]
  clear hw w'
  have HR4 : Hid (Row w4 g (roomed p 165)) := HR2.out.below B4.out
  have HP4 : Hid (Sl w4 (.slice ao p.length ca) p) := HP2.out.below B4.out
  have HT4 : Hid (Tab w4) := HT2.out.below B4.out
  have HFS4 : Hid (Sl w4 (.slice (some ⟨g, 0, none⟩) p.length (p.length + 80)) p) := HFS.out.below B4.out
  have HB4 : Hid (Below w.heap.size w w4) := HB2.out.trans (B4.out.mono HB2.out.size)
  have HGl : Hid (g < w4.heap.size) := HR4.out.lt
  clear H3 B3 H4 B4 HR2 HP2 HQ2 HT2 HFS HB2
  go_wp2_with fail
  refine (more_any HT4.out hs HFS4.out).mono ?_
  rintro e w' ⟨rfl, hw⟩
  rw [hw]
  clear hw w'
  go_wp2_with fail
  refine (refmore_any hs HP4.out).mono ?_
  rintro e w' ⟨rfl, hw⟩
  rw [hw]
  clear hw w'
  have HI : Hid (Calls Tryd.prog 31 #[.slice (some ⟨g, 0, none⟩) (p.length + 80) (p.length + 80), .slice ao p.length ca, .int .u8 165] w4 fun e w' => e = .returned (.bool true) ∧ Below w4.heap.size w4 w') := by
    have h := HR4.out.sl (roomed_small HSm.out (by decide)) 0 (p.length + 80) (p.length + 80) (by rw [roomed_length]; omega) (by omega) (by unfold maxLen; omega)
    rw [List.drop_zero, List.take_of_length_le (by rw [roomed_length]; omega)] at h
    exact intact_any (m := 165) h HP4.out
  go_wp2_with fail
  refine HI.out.mono ?_
  rintro e w5 ⟨rfl, hb5⟩
  have HR5 : Hid (Row w5 g (roomed p 165)) := HR4.out.below hb5
  have HP5 : Hid (Sl w5 (.slice ao p.length ca) p) := HP4.out.below hb5
  have HT5 : Hid (Tab w5) := HT4.out.below hb5
  have HB5 : Hid (Below w.heap.size w w5) := HB4.out.trans (hb5.mono HB4.out.size)
  clear hb5 HI HR4 HP4 HT4 HFS4 HB4 HGl
  go_wp2_with (at_builtin; refine wpList_append_sl (v := .slice none 0 0) (.const (.slice none 0 0)) (.tmp 57) (by rfl) rfl rfl (own_nil w5 w5.heap.size) rfl HP5.out (by simp only [List.length_nil]; omega) (Nat.le_refl _) ?_; intro v6 w6 h6 g6 l6; have B6 : Hid (Below w5.heap.size w5 w6) := below_grown g6 (Nat.le_refl _) (fun k hk => by cases hk); have H6 : Hid (Own w6 w5.heap.size v6 p) := h6; clear h6 g6 l6)
  obtain ⟨ao6, c6, hv6, hc6, hm6⟩ : ∃ ao6 c6, v6 = .slice ao6 p.length c6 ∧ p.length ≤ c6 ∧ c6 ≤ maxLen := by
    obtain ⟨a, c, e, h1, h2, _⟩ := H6.out.sl HSm.out
    exact ⟨a, c, e, h1, h2⟩
  rw [hv6] at H6 ⊢
  clear hv6
  unfold maxLen at hm6
  have HG5 : Hid (g < w5.heap.size) := HR5.out.lt
  have HR6 : Hid (Row w6 g (roomed (Pl.turnTo p 0) 165)) := by rw [Pl.turnTo_zero]; exact HR5.out.below B6.out
  have HO6 : Hid (Own w6 w5.heap.size (.slice ao6 p.length c6) (Pl.turnTo p 0)) := by rw [Pl.turnTo_zero]; exact H6.out
  have HB6 : Hid (Below w.heap.size w w6) := HB5.out.trans (B6.out.mono HB5.out.size)
  have HB56 : Hid (w.heap.size ≤ w5.heap.size) := HB5.out.size
  clear H6 B6 HR5 HP5 HT5 HB5
  go_loopw [10] (fun i wr => ∃ k : Nat, k ≤ p.length ∧ i = .int .i64 (k : Int) ∧ Hid (Row wr g (roomed (Pl.turnTo p k) 165)) ∧ Hid (Own wr w5.heap.size (.slice ao6 p.length c6) (Pl.turnTo p k)) ∧ Hid (Below w.heap.size w wr)) (fun i _ => p.length - (intOf i).toNat)
  case atStart => exact ⟨0, by omega, rfl, HR6, HO6, HB6⟩
  case round =>
    obtain ⟨k, hk, rfl, HR, HO, HB⟩ := hrel
    clear HR6 HO6 HB6
    by_cases hlt : k < p.length
    · obtain ⟨g6, c6', e6, hb6, hl6, _, _⟩ := HO.out.form (by rw [Pl.turnTo_length]; omega)
      obtain rfl : ao6 = some ⟨g6, 0, none⟩ := (Value.slice.inj e6).1
      clear e6
      have hne : g ≠ g6 := by have := HG5.out; omega
      have hz := Pl.mem_getD (k := k) HSm.out
      have q1 := HO.out.cell k (by rw [Pl.turnTo_length]; exact hlt)
      rw [Pl.turnTo_get p k hlt] at q1
      have q2 := HO.out.thawed k
      have q3 := HR.out.cell k (by rw [roomed_length, Pl.turnTo_length]; omega)
      have q4 := HR.out.thawed k
      have hx : bits .xor .u8 ((p.getD k 0 : Nat) : Int) 90 = ((p.getD k 0 ^^^ 90 : Nat) : Int) := u8_xor_nat (p.getD k 0) 90 hz (by decide)
      have HS := Pl.turnTo_set p k hlt
      have HNew : Hid ((Pl.turnTo p k).set k (p.getD k 0 ^^^ 90) = Pl.turnTo p (k + 1)) := HS
      clear HS
      generalize p.getD k 0 ^^^ 90 = y at *
      generalize p.getD k 0 = z at *
      generalize (roomed (Pl.turnTo p k) 165).getD k 0 = z3 at q3
      go_wp2
      go_roundw
      case rel =>
        refine ⟨k + 1, by omega, by go_num, ?_, ?_, (HB.out.setCell (show w.heap.size ≤ g6 by have := HB56.out; omega) _).setCell HGw.out _⟩
        · have h := (HR.out.other g6 k (.int .u8 ((y : Nat) : Int)) hne).set k y
          rw [roomed_set _ _ _ _ (by rw [Pl.turnTo_length]; exact hlt), HNew.out] at h
          exact h
        · have h := (HO.out.set k y).other g k (.int .u8 ((y : Nat) : Int)) (by simp [Value.ownBlock]; omega)
          rw [HNew.out] at h
          exact h
      case measure => simp [intOf]; omega
    · have HE : Hid (k = p.length) := (by omega : k = p.length)
      have hsm := Pl.turn_small HSm.out k
      have HFk : Hid (Sl wr (.slice (some ⟨g, 0, none⟩) p.length (p.length + 80)) (Pl.turnTo p k)) := by
        have h := HR.out.sl (roomed_small hsm (by decide)) 0 p.length (p.length + 80) (by rw [roomed_length, Pl.turnTo_length]; omega) (by omega) (by unfold maxLen; omega)
        rw [List.drop_zero] at h
        have e := roomed_take (Pl.turnTo p k) 165
        rw [Pl.turnTo_length] at e
        rwa [e] at h
      have HLk : Hid (Sl wr (.slice ao6 p.length c6) (Pl.turnTo p k)) := HO.out.sl hsm
      have HTk : Hid (Tab wr) := HT.out.below HB.out
      clear hsm HR HO
      generalize Pl.turnTo p k = L at *
      go_wp2_with fail
      refine (crc_any HTk.out HFk.out).mono ?_
      rintro e w' ⟨rfl, hw⟩
      rw [hw]
      clear hw w'
      go_wp2_with fail
      refine (refcrc_any HLk.out).mono ?_
      rintro e w' ⟨rfl, hw⟩
      rw [hw]
      clear hw w'
      go_wp2_with fail
      refine (more_any HTk.out hs HFk.out).mono ?_
      rintro e w' ⟨rfl, hw⟩
      rw [hw]
      clear hw w'
      go_wp2_with fail
      refine (refmore_any hs HLk.out).mono ?_
      rintro e w' ⟨rfl, hw⟩
      rw [hw]
      clear hw w'
      have HZ : Hid (Calls Tryd.prog 8 #[.slice (some ⟨wr.heap.size, 0, none⟩) 1 1] (wr.alloc (.cells #[.int .u8 0] 5)) fun e w' => e = .returned (.int .u32 1383945041) ∧ w' = wr.alloc (.cells #[.int .u8 0] 5)) := by
        have hr : Row (wr.alloc (.cells #[.int .u8 0] 5)) wr.heap.size [0] := heap_alloc_new wr _
        have h := crc_any (HTk.out.below ((Below.refl _ _).alloc (Nat.le_refl _) _)) (hr.sl (by decide) 0 1 1 (by decide) (by decide) (by decide))
        rw [show Pl.crc (([0] : List Nat).drop 0 |>.take 1) = 1383945041 from by decide] at h
        exact h
      go_wp2_with fail
      refine HZ.out.mono ?_
      rintro e w' ⟨rfl, hw⟩
      rw [hw]
      clear hw w'
      go_wp2
      go_ret
      exact ⟨rfl, HB.out.alloc HB.out.size _⟩
set_option maxHeartbeats 1000000 in
theorem sums_beyond (p q : List Nat) (s : Nat) (ao bo : Option Addr) (ca cb : Nat) (w : World) (hm : p.length ≤ maxLen) (hle : 2147483647 < p.length + q.length) :
    Calls Tryd.prog 4 #[.slice ao p.length ca, .slice bo q.length cb, .int .u32 s] w fun e w' => e = .returned (.bool true) ∧ Below w.heap.size w w' := by
  go_enter Tryd.func4, Tryd.ntmps4
  go_wp2_with fail
  refine (beyond2_yes p.length q.length _ _ _ hm hle (by simp) (by simp)).mono ?_
  rintro e w1 ⟨rfl, hw1⟩
  have HB1 : Hid (Below w.heap.size w w1) := by rw [hw1]; exact (Below.refl _ _).alloc (Nat.le_refl _) _
  clear hw1
  go_wp2
  go_ret
  exact ⟨rfl, HB1.out⟩
theorem sums_any {p q : List Nat} {s : Nat} {u v : Value} {w : World} (ht : Tab w) (hp : Sl w u p) (hq : Sl w v q) (hs : s < 4294967296) :
    Calls Tryd.prog 4 #[u, v, .int .u32 s] w fun e w' => e = .returned (.bool true) ∧ Below w.heap.size w w' := by
  obtain ⟨ao, ca, rfl, h1, h2, _⟩ := id hp
  obtain ⟨bo, cb, rfl, _⟩ := id hq
  by_cases hle : p.length + q.length ≤ 2147483647
  · exact sums_yes p q s ao bo ca cb w ht hp hq hs hle
  · exact sums_beyond p q s ao bo ca cb w (by omega) (by omega)
end Go.Proofs.YtphlfkkbkkocmaaDoor
