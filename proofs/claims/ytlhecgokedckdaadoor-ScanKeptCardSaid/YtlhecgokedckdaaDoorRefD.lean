/- The document's own answer to chapter 5: Text. -/
import Derived.Test.YtlhecgokedckdaaDoorRefB
import Derived.Test.YtlhecgokedckdaaDoorScText2
namespace Go.Proofs.YtlhecgokedckdaaDoor
open Go.RowKit Sc
theorem txt_byte {s : ByteArray} {a k i : Nat} (hi : i = a + 1 + k) (h : i < s.size) : (((sb s).drop (a + 1)).drop k).headD 0 = s[i].toNat := by
  subst hi
  rw [List.drop_drop, sb_cons s _ h]
  rfl
theorem txt_none {s : ByteArray} {a k i : Nat} (hi : i = a + 1 + k) (h : ¬ i < s.size) : (((sb s).drop (a + 1)).drop k).headD 0 = 0 := by
  subst hi
  rw [List.drop_drop, sb_over s _ h]
  rfl
/-- what the document's Text answers -/
def rtextV (a : Nat) : Res (List Nat) → Value
  | .ok x k => .tuple #[.string (mkS x), .int .i64 ((a + 1 + k : Nat) : Int), .int .i64 (-1)]
  | .bad k => .tuple #[.string (mkS []), .int .i64 ((a + 1 + k : Nat) : Int), .int .i64 ((a + 1 + k : Nat) : Int)]
/-- what has been gathered -/
def RTx (w wr : World) (s : ByteArray) (a : Nat) (b : Value) (i k : Nat) (xs : List Nat) : Prop :=
  i = a + 1 + k ∧ Own wr w.heap.size b xs ∧ (∀ z ∈ xs, z < 256) ∧ xs.length ≤ k ∧ Below w.heap.size w wr ∧ TxtAt ((sb s).drop (a + 1)) xs k
theorem RTx.app {w wr w2 : World} {s : ByteArray} {a : Nat} {b v2 : Value} {i k j z : Nat} {xs : List Nat} {o : Obj} (h : RTx w wr s a b i k xs) (h2 : Own w2 w.heap.size v2 (xs ++ [z])) (g : (wr.alloc o).grownBy w2 b.ownBlock) (hz : z < 256) (ht : TxtAt ((sb s).drop (a + 1)) (xs ++ [z]) (k + 1 + j)) : RTx w w2 s a v2 (i + 1 + j) (k + 1 + j) (xs ++ [z]) := by
  obtain ⟨h1, ho, hs, hl, hb, _⟩ := h
  refine ⟨by omega, h2, ?_, by rw [List.length_append]; simp; omega, ?_, ht⟩
  · intro y hy
    rcases List.mem_append.1 hy with hy | hy
    · exact hs y hy
    · rw [List.mem_singleton.1 hy]; exact hz
  · exact (hb.alloc hb.size o).grown g (by have := hb.size; simp; omega) (fun q hq => (ho.lt q hq).1)
theorem RTx.below {w wr wq : World} {s : ByteArray} {a : Nat} {b : Value} {i k : Nat} {xs : List Nat} (h : RTx w wr s a b i k xs) (hb : Below wr.heap.size wr wq) : RTx w wq s a b i k xs :=
  ⟨h.1, h.2.1.below hb, h.2.2.1, h.2.2.2.1, h.2.2.2.2.1.trans (hb.mono h.2.2.2.2.1.size), h.2.2.2.2.2⟩
/-- the digits of \x that have been read -/
def HexAt (s : ByteArray) (a i k : Nat) (xs : List Nat) (j n : Nat) : Prop :=
  (j = 1 ∧ n = 0) ∨ (j = 2 ∧ i + 2 < s.size ∧ n < 16 ∧ value ((((sb s).drop (a + 1)).drop (k + 2)).headD 0) = n) ∨ (j = 3 ∧ i + 3 < s.size ∧ n < 256 ∧ TxtAt ((sb s).drop (a + 1)) (xs ++ [n]) (k + 1 + 3))
theorem hexV_neg {b : Nat} (h : 15 < value b) : hexV b = -1 := by unfold hexV; rw [if_neg (by omega)]
theorem hexV_pos {b : Nat} (h : ¬ 15 < value b) : hexV b = (value b : Int) := by unfold hexV; rw [if_pos (by omega)]
set_option maxRecDepth 100000 in
set_option maxHeartbeats 1000000 in
theorem rText_any {w : World} (s : ByteArray) {a : Nat} (ha : a < s.size) (hs : s.size ≤ 1048576) :
    Calls Tryd.prog 41 #[.string s, .int .i64 (a : Int)] w fun e w' => e = .returned (rtextV a (textF ((sb s).drop (a + 1)))) ∧ Below w.heap.size w w' := by
  go_enter Tryd.func41, Tryd.ntmps41
  go_wp2_with fail
  go_loopw [7, 8] (fun b i wr => ∃ (j k : Nat) (xs : List Nat), i = .int .i64 (j : Int) ∧ j ≤ s.size ∧ RTx w wr s a b j k xs) (fun _ i _ => s.size - (intOf i).toNat)
  case atStart => exact ⟨a + 1, 0, [], rfl, by omega, by omega, own_nil _ _, by simp, by simp, Below.refl _ _, TxtAt.begin _⟩
  case round =>
    obtain ⟨i, k, xs, rfl, hi, HX⟩ := hrel
    have HXe : Hid (i = a + 1 + k) := HX.1
    have ht := HX.2.2.2.2.2
    have hxl := HX.2.2.2.1
    have hkb : k ≤ 1048576 := by have := HX.1; omega
    have HBl : Hid (Below w.heap.size w wr) := HX.2.2.2.2.1
    by_cases hlt : i < s.size
    · have hz := s[i].toNat_lt
      have i1 : (i : Int) < (s.size : Int) := by omega
      have hby := txt_byte HXe.out hlt
      by_cases e1 : s[i].toNat = 34
      · have hq := ht.quote (by rw [hby, e1])
        have q1 : ((s[i].toNat : Int) == 34) = true := by rw [e1]; rfl
        have hcv := conv_str (HX.2.1.sl HX.2.2.1)
        have HV : Hid (rtextV a (textF ((sb s).drop (a + 1))) = .tuple #[.string (mkS xs), .int .i64 ((i + 1 : Nat) : Int), .int .i64 (-1)]) := by
          show _ = _
          rw [show textF _ = _ from hq, HXe.out]
          rfl
        clear hq hby ht e1 HX
        go_wp2
        go_ret3
        rw [HV.out]
        exact ⟨rfl, HBl.out⟩
      · have q1 : ((s[i].toNat : Int) == 34) = false := beq_eq_false_iff_ne.2 (by omega)
        by_cases e3 : s[i].toNat < 32 ∨ 126 < s[i].toNat
        · have hq := ht.wrong (by rw [hby]; exact e1) (by rw [hby]; omega) (by rw [hby]; exact e3)
          have HV : Hid (rtextV a (textF ((sb s).drop (a + 1))) = .tuple #[.string (mkS []), .int .i64 (i : Int), .int .i64 (i : Int)]) := by
            show _ = _
            rw [show textF _ = _ from hq, HXe.out]
            rfl
          clear hq hby ht HX
          rcases e3 with e3 | e3
          · have q3 : (s[i].toNat : Int) < 32 := by omega
            go_wp2
            go_ret3
            rw [HV.out]
            exact ⟨rfl, HBl.out⟩
          · have q3 : ¬ (s[i].toNat : Int) < 32 := by omega
            have q4 : (126 : Int) < (s[i].toNat : Int) := by omega
            go_wp2
            go_ret3
            rw [HV.out]
            exact ⟨rfl, HBl.out⟩
        · have q3 : ¬ (s[i].toNat : Int) < 32 := by omega
          have q4 : ¬ (126 : Int) < (s[i].toNat : Int) := by omega
          by_cases e2 : s[i].toNat = 92
          · have q2 : ((s[i].toNat : Int) == 92) = true := by rw [e2]; rfl
            have q2' : ((s[i].toNat : Int) != 92) = false := by rw [e2]; rfl
            by_cases hlt2 : i + 1 < s.size
            · have i2 : ((i : Int) + 1 < (s.size : Int)) := by omega
              have hz2 : s[i + 1].toNat < 256 := s[i + 1].toNat_lt
              have hb2 := txt_byte (s := s) (a := a) (k := k + 1) (i := i + 1) (by rw [HXe.out]; omega) hlt2
              by_cases f : s[i + 1].toNat = 110
              · have hq := ht.esc (c := 10) (by rw [hby, e2]) (.inl ⟨by rw [hb2, f], rfl⟩)
                have p110 : ((s[i + 1].toNat : Int) == 110) = true := by rw [f]; rfl
                have HSl : Hid (Sl (wr.alloc (.cells #[.int .u8 (10 : Int)] 5)) (.slice (some ⟨wr.heap.size, 0, none⟩) 1 1) [10]) := sl_byte (z := 10) wr (by decide)
                have HOA : Hid (Own (wr.alloc (.cells #[.int .u8 (10 : Int)] 5)) w.heap.size u7 xs) := HX.2.1.below ((Below.refl _ _).alloc (Nat.le_refl _) _)
                have HBase : Hid (w.heap.size ≤ wr.heap.size) := HBl.out.size
                clear hby ht hb2
                go_wp2_with (at_builtin; refine wpList_append_sl (v := u7) (.tmp 58) (.tmp 59) (by rfl) rfl rfl HOA.out rfl HSl.out (by simp only [List.length_cons, List.length_nil]; omega) (by simp; exact Nat.le_succ_of_le HBase.out) ?_; intro v2 w2 h2 g2 l2; have HT2 : Hid (RTx w w2 s a v2 (i + 1 + 1) (k + 1 + 1) (xs ++ [10])) := HX.app h2 g2 (by decide) hq; clear h2 g2 l2)
                exact ⟨⟨i + 2, k + 2, _, by go_num, by omega, HT2.out⟩, by simp [intOf]; omega⟩
              · by_cases f : s[i + 1].toNat = 116
                · have hq := ht.esc (c := 9) (by rw [hby, e2]) (.inr (.inl ⟨by rw [hb2, f], rfl⟩))
                  have p110 : ((s[i + 1].toNat : Int) == 110) = false := by exact beq_eq_false_iff_ne.2 (by omega)
                  have p116 : ((s[i + 1].toNat : Int) == 116) = true := by rw [f]; rfl
                  have HSl : Hid (Sl (wr.alloc (.cells #[.int .u8 (9 : Int)] 5)) (.slice (some ⟨wr.heap.size, 0, none⟩) 1 1) [9]) := sl_byte (z := 9) wr (by decide)
                  have HOA : Hid (Own (wr.alloc (.cells #[.int .u8 (9 : Int)] 5)) w.heap.size u7 xs) := HX.2.1.below ((Below.refl _ _).alloc (Nat.le_refl _) _)
                  have HBase : Hid (w.heap.size ≤ wr.heap.size) := HBl.out.size
                  clear hby ht hb2
                  go_wp2_with (at_builtin; refine wpList_append_sl (v := u7) (.tmp 63) (.tmp 64) (by rfl) rfl rfl HOA.out rfl HSl.out (by simp only [List.length_cons, List.length_nil]; omega) (by simp; exact Nat.le_succ_of_le HBase.out) ?_; intro v2 w2 h2 g2 l2; have HT2 : Hid (RTx w w2 s a v2 (i + 1 + 1) (k + 1 + 1) (xs ++ [9])) := HX.app h2 g2 (by decide) hq; clear h2 g2 l2)
                  exact ⟨⟨i + 2, k + 2, _, by go_num, by omega, HT2.out⟩, by simp [intOf]; omega⟩
                · by_cases f : s[i + 1].toNat = 34
                  · have hq := ht.esc (c := 34) (by rw [hby, e2]) (.inr (.inr ⟨.inr (by rw [hb2, f]), by rw [hb2, f]⟩))
                    have p110 : ((s[i + 1].toNat : Int) == 110) = false := by exact beq_eq_false_iff_ne.2 (by omega)
                    have p116 : ((s[i + 1].toNat : Int) == 116) = false := by exact beq_eq_false_iff_ne.2 (by omega)
                    have p34 : ((s[i + 1].toNat : Int) == 34) = true := by rw [f]; rfl
                    have HSl : Hid (Sl (wr.alloc (.cells #[.int .u8 (34 : Int)] 5)) (.slice (some ⟨wr.heap.size, 0, none⟩) 1 1) [34]) := sl_byte (z := 34) wr (by decide)
                    have HOA : Hid (Own (wr.alloc (.cells #[.int .u8 (34 : Int)] 5)) w.heap.size u7 xs) := HX.2.1.below ((Below.refl _ _).alloc (Nat.le_refl _) _)
                    have HBase : Hid (w.heap.size ≤ wr.heap.size) := HBl.out.size
                    clear hby ht hb2
                    go_wp2_with (at_builtin; refine wpList_append_sl (v := u7) (.tmp 69) (.tmp 73) (by rfl) rfl rfl HOA.out rfl HSl.out (by simp only [List.length_cons, List.length_nil]; omega) (by simp; exact Nat.le_succ_of_le HBase.out) ?_; intro v2 w2 h2 g2 l2; have HT2 : Hid (RTx w w2 s a v2 (i + 1 + 1) (k + 1 + 1) (xs ++ [34])) := HX.app h2 g2 (by decide) hq; clear h2 g2 l2)
                    exact ⟨⟨i + 2, k + 2, _, by go_num, by omega, HT2.out⟩, by simp [intOf]; omega⟩
                  · by_cases f : s[i + 1].toNat = 92
                    · have hq := ht.esc (c := 92) (by rw [hby, e2]) (.inr (.inr ⟨.inl (by rw [hb2, f]), by rw [hb2, f]⟩))
                      have p110 : ((s[i + 1].toNat : Int) == 110) = false := by exact beq_eq_false_iff_ne.2 (by omega)
                      have p116 : ((s[i + 1].toNat : Int) == 116) = false := by exact beq_eq_false_iff_ne.2 (by omega)
                      have p34 : ((s[i + 1].toNat : Int) == 34) = false := by exact beq_eq_false_iff_ne.2 (by omega)
                      have p92 : ((s[i + 1].toNat : Int) == 92) = true := by rw [f]; rfl
                      have HSl : Hid (Sl (wr.alloc (.cells #[.int .u8 (92 : Int)] 5)) (.slice (some ⟨wr.heap.size, 0, none⟩) 1 1) [92]) := sl_byte (z := 92) wr (by decide)
                      have HOA : Hid (Own (wr.alloc (.cells #[.int .u8 (92 : Int)] 5)) w.heap.size u7 xs) := HX.2.1.below ((Below.refl _ _).alloc (Nat.le_refl _) _)
                      have HBase : Hid (w.heap.size ≤ wr.heap.size) := HBl.out.size
                      clear hby ht hb2
                      go_wp2_with (at_builtin; refine wpList_append_sl (v := u7) (.tmp 69) (.tmp 73) (by rfl) rfl rfl HOA.out rfl HSl.out (by simp only [List.length_cons, List.length_nil]; omega) (by simp; exact Nat.le_succ_of_le HBase.out) ?_; intro v2 w2 h2 g2 l2; have HT2 : Hid (RTx w w2 s a v2 (i + 1 + 1) (k + 1 + 1) (xs ++ [92])) := HX.app h2 g2 (by decide) hq; clear h2 g2 l2)
                      exact ⟨⟨i + 2, k + 2, _, by go_num, by omega, HT2.out⟩, by simp [intOf]; omega⟩
                    · by_cases f : s[i + 1].toNat = 120
                      · have p110 : ((s[i + 1].toNat : Int) == 110) = false := by exact beq_eq_false_iff_ne.2 (by omega)
                        have p116 : ((s[i + 1].toNat : Int) == 116) = false := by exact beq_eq_false_iff_ne.2 (by omega)
                        have p34 : ((s[i + 1].toNat : Int) == 34) = false := by exact beq_eq_false_iff_ne.2 (by omega)
                        have p92 : ((s[i + 1].toNat : Int) == 92) = false := by exact beq_eq_false_iff_ne.2 (by omega)
                        have p120 : ((s[i + 1].toNat : Int) == 120) = true := by rw [f]; rfl
                        have HX0 : Hid (RTx w wr s a u7 i k xs) := HX
                        clear HX
                        go_wp2_with fail
                        go_loopw [10, 11] (fun n kk wq => ∃ (j n' : Nat), kk = .int .i64 (j : Int) ∧ n = .int .i64 (n' : Int) ∧ HexAt s a i k xs j n' ∧ Hid (RTx w wq s a u7 i k xs)) (fun _ kk _ => 3 - (intOf kk).toNat)
                        case atStart => exact ⟨1, 0, rfl, rfl, .inl ⟨rfl, rfl⟩, HX0⟩
                        case round =>
                          obtain ⟨j, n', rfl, rfl, HJ, HQ⟩ := hrel
                          rcases HJ with ⟨rfl, rfl⟩ | ⟨rfl, h22, hd16, hd⟩ | ⟨rfl, h33, h256, hq⟩
                          · by_cases hl1 : i + 2 < s.size
                            · have hx : (i : Int) + 1 + 1 < (s.size : Int) := by omega
                              have hbz : s[i + 1 + 1].toNat < 256 := s[i + 1 + 1].toNat_lt
                              have hbx := txt_byte (s := s) (a := a) (k := k + 2) (i := i + 1 + 1) (by rw [HXe.out]; omega) hl1
                              have HH : Hid (∀ W, Calls Tryd.prog 51 #[.int .u8 (s[i + 1 + 1].toNat : Int)] W fun e w' => e = .returned (.int .i64 (hexV s[i + 1 + 1].toNat)) ∧ W = w') := fun W => hex_any hbz W
                              by_cases hv : 15 < value s[i + 1 + 1].toNat
                              · have hq := ht.hex1 (by rw [hby, e2]) (by rw [hb2, f]) (by rw [hbx]; exact hv)
                                have HV : Hid (rtextV a (textF ((sb s).drop (a + 1))) = .tuple #[.string (mkS []), .int .i64 ((i + 1 + 1 : Nat) : Int), .int .i64 ((i + 1 + 1 : Nat) : Int)]) := by
                                  show _ = _
                                  rw [show textF _ = _ from hq, HXe.out]
                                  rfl
                                rw [hexV_neg hv] at HH
                                clear hq hby ht hb2 hbx
                                go_wp2_with fail
                                refine (HH.out _).mono ?_
                                rintro e w2 ⟨rfl, rfl⟩
                                clear HH
                                go_wp2
                                go_ret3
                                rw [HV.out]
                                exact ⟨rfl, HQ.out.2.2.2.2.1⟩
                              · rw [hexV_pos hv] at HH
                                have HN : Hid (HexAt s a i k xs 2 (value s[i + 1 + 1].toNat)) := .inr (.inl ⟨rfl, by omega, by omega, by rw [hbx]⟩)
                                clear hby ht hb2 hbx
                                have hv' : value s[i + 1 + 1].toNat < 16 := by omega
                                generalize value s[i + 1 + 1].toNat = v at *
                                go_wp2_with fail
                                refine (HH.out _).mono ?_
                                rintro e w2 ⟨rfl, rfl⟩
                                go_wp2_with fail
                                refine (HH.out _).mono ?_
                                rintro e w2 ⟨rfl, rfl⟩
                                go_wp2_with fail
                                exact ⟨⟨2, v, rfl, rfl, HN.out, HQ⟩, by simp [intOf]⟩
                            · have hx : ¬ (i : Int) + 1 + 1 < (s.size : Int) := by omega
                              have hbx := txt_none (s := s) (a := a) (k := k + 2) (i := i + 1 + 1) (by rw [HXe.out]; omega) hl1
                              have hq := ht.hex1 (by rw [hby, e2]) (by rw [hb2, f]) (by rw [hbx]; decide)
                              have HV : Hid (rtextV a (textF ((sb s).drop (a + 1))) = .tuple #[.string (mkS []), .int .i64 ((i + 1 + 1 : Nat) : Int), .int .i64 ((i + 1 + 1 : Nat) : Int)]) := by
                                show _ = _
                                rw [show textF _ = _ from hq, HXe.out]
                                rfl
                              clear hq hby ht hb2 hbx
                              go_wp2
                              go_ret3
                              rw [HV.out]
                              exact ⟨rfl, HQ.out.2.2.2.2.1⟩
                          · obtain ⟨d, rfl⟩ : ∃ d, d = n' := ⟨_, rfl⟩
                            by_cases hl2 : i + 3 < s.size
                            · have hx : (i : Int) + 1 + 2 < (s.size : Int) := by omega
                              have hbz : s[i + 1 + 2].toNat < 256 := s[i + 1 + 2].toNat_lt
                              have hbx := txt_byte (s := s) (a := a) (k := k + 3) (i := i + 1 + 2) (by rw [HXe.out]; omega) hl2
                              have HH : Hid (∀ W, Calls Tryd.prog 51 #[.int .u8 (s[i + 1 + 2].toNat : Int)] W fun e w' => e = .returned (.int .i64 (hexV s[i + 1 + 2].toNat)) ∧ W = w') := fun W => hex_any hbz W
                              by_cases hv : 15 < value s[i + 1 + 2].toNat
                              · have hq := ht.hex2 (by rw [hby, e2]) (by rw [hb2, f]) (by rw [hd]; omega) (by rw [hbx]; exact hv)
                                have HV : Hid (rtextV a (textF ((sb s).drop (a + 1))) = .tuple #[.string (mkS []), .int .i64 ((i + 1 + 2 : Nat) : Int), .int .i64 ((i + 1 + 2 : Nat) : Int)]) := by
                                  show _ = _
                                  rw [show textF _ = _ from hq, HXe.out]
                                  rfl
                                rw [hexV_neg hv] at HH
                                clear hq hby ht hb2 hbx
                                go_wp2_with fail
                                refine (HH.out _).mono ?_
                                rintro e w2 ⟨rfl, rfl⟩
                                clear HH
                                go_wp2
                                go_ret3
                                rw [HV.out]
                                exact ⟨rfl, HQ.out.2.2.2.2.1⟩
                              · rw [hexV_pos hv] at HH
                                have hq := ht.hex (by rw [hby, e2]) (by rw [hb2, f]) (by rw [hd]; omega) (by rw [hbx]; exact hv)
                                rw [hd, hbx] at hq
                                have HN : Hid (HexAt s a i k xs 3 (16 * d + value s[i + 1 + 2].toNat)) := .inr (.inr ⟨rfl, by omega, by omega, hq⟩)
                                clear hq hd
                                clear hby ht hb2 hbx
                                have hv' : value s[i + 1 + 2].toNat < 16 := by omega
                                generalize value s[i + 1 + 2].toNat = v at *
                                go_wp2_with fail
                                refine (HH.out _).mono ?_
                                rintro e w2 ⟨rfl, rfl⟩
                                go_wp2_with fail
                                refine (HH.out _).mono ?_
                                rintro e w2 ⟨rfl, rfl⟩
                                go_wp2_with fail
                                exact ⟨⟨3, 16 * d + v, rfl, rfl, HN.out, HQ⟩, by simp [intOf]⟩
                            · have hx : ¬ (i : Int) + 1 + 2 < (s.size : Int) := by omega
                              have hbx := txt_none (s := s) (a := a) (k := k + 3) (i := i + 1 + 2) (by rw [HXe.out]; omega) hl2
                              have hq := ht.hex2 (by rw [hby, e2]) (by rw [hb2, f]) (by rw [hd]; omega) (by rw [hbx]; decide)
                              have HV : Hid (rtextV a (textF ((sb s).drop (a + 1))) = .tuple #[.string (mkS []), .int .i64 ((i + 1 + 2 : Nat) : Int), .int .i64 ((i + 1 + 2 : Nat) : Int)]) := by
                                show _ = _
                                rw [show textF _ = _ from hq, HXe.out]
                                rfl
                              clear hq hby ht hb2 hbx
                              go_wp2
                              go_ret3
                              rw [HV.out]
                              exact ⟨rfl, HQ.out.2.2.2.2.1⟩
                          · have HSl : Hid (Sl (wr.alloc (.cells #[.int .u8 (n' : Int)] 5)) (.slice (some ⟨wr.heap.size, 0, none⟩) 1 1) [n']) := sl_byte (z := n') wr h256
                            have HOA : Hid (Own (wr.alloc (.cells #[.int .u8 (n' : Int)] 5)) w.heap.size u7 xs) := HQ.out.2.1.below ((Below.refl _ _).alloc (Nat.le_refl _) _)
                            have HBase : Hid (w.heap.size ≤ wr.heap.size) := HQ.out.2.2.2.2.1.size
                            have hmod : (n' : Int) % 256 = (n' : Int) := by omega
                            clear hby ht hb2
                            go_wp2_with (at_builtin; refine wpList_append_sl (v := u7) (.tmp 111) (.tmp 114) (by rfl) rfl rfl HOA.out rfl HSl.out (by simp only [List.length_cons, List.length_nil]; omega) (by simp; exact Nat.le_succ_of_le HBase.out) ?_; intro v2 w2 h2 g2 l2; have HT2 : Hid (RTx w w2 s a v2 (i + 1 + 3) (k + 1 + 3) (xs ++ [n'])) := HQ.out.app h2 g2 h256 hq; clear h2 g2 l2)
                            exact ⟨⟨i + 4, k + 4, _, by go_num, by omega, HT2.out⟩, by simp [intOf]; omega⟩
                      · have hq := ht.escBad (by rw [hby, e2]) (by rw [hb2]; exact f) (by rw [hb2]; omega) (by rw [hb2]; omega) (by rw [hb2]; omega) (by rw [hb2]; omega)
                        have HV : Hid (rtextV a (textF ((sb s).drop (a + 1))) = .tuple #[.string (mkS []), .int .i64 ((i + 1 : Nat) : Int), .int .i64 ((i + 1 : Nat) : Int)]) := by
                          show _ = _
                          rw [show textF _ = _ from hq, HXe.out]
                          rfl
                        have p110 : ((s[i + 1].toNat : Int) == 110) = false := by exact beq_eq_false_iff_ne.2 (by omega)
                        have p116 : ((s[i + 1].toNat : Int) == 116) = false := by exact beq_eq_false_iff_ne.2 (by omega)
                        have p34 : ((s[i + 1].toNat : Int) == 34) = false := by exact beq_eq_false_iff_ne.2 (by omega)
                        have p92 : ((s[i + 1].toNat : Int) == 92) = false := by exact beq_eq_false_iff_ne.2 (by omega)
                        have p120 : ((s[i + 1].toNat : Int) == 120) = false := by exact beq_eq_false_iff_ne.2 (by omega)
                        clear hq hby ht HX hb2
                        go_wp2
                        go_ret3
                        rw [HV.out]
                        exact ⟨rfl, HBl.out⟩
            · have i2 : ¬ ((i : Int) + 1 < (s.size : Int)) := by omega
              have hb2 := txt_none (s := s) (a := a) (k := k + 1) (i := i + 1) (by rw [HXe.out]; omega) hlt2
              have hq := ht.escBad (by rw [hby, e2]) (by rw [hb2]; decide) (by rw [hb2]; decide) (by rw [hb2]; decide) (by rw [hb2]; decide) (by rw [hb2]; decide)
              have HV : Hid (rtextV a (textF ((sb s).drop (a + 1))) = .tuple #[.string (mkS []), .int .i64 ((i + 1 : Nat) : Int), .int .i64 ((i + 1 : Nat) : Int)]) := by
                show _ = _
                rw [show textF _ = _ from hq, HXe.out]
                rfl
              clear hq hby ht HX hb2
              go_wp2
              go_ret3
              rw [HV.out]
              exact ⟨rfl, HBl.out⟩
          · have q2 : ((s[i].toNat : Int) == 92) = false := beq_eq_false_iff_ne.2 (by omega)
            have q2' : ((s[i].toNat : Int) != 92) = true := by rw [bne, q2]; rfl
            have hq := ht.plain (by rw [hby]; exact e1) (by rw [hby]; exact e2) (by rw [hby]; exact e3)
            rw [hby] at hq
            have HSl : Hid (Sl (wr.alloc (.cells #[.int .u8 (s[i].toNat : Int)] 5)) (.slice (some ⟨wr.heap.size, 0, none⟩) 1 1) [s[i].toNat]) := sl_byte wr hz
            have HOA : Hid (Own (wr.alloc (.cells #[.int .u8 (s[i].toNat : Int)] 5)) w.heap.size u7 xs) := HX.2.1.below ((Below.refl _ _).alloc (Nat.le_refl _) _)
            have HBase : Hid (w.heap.size ≤ wr.heap.size) := HBl.out.size
            clear hby ht
            go_wp2_with (at_builtin; refine wpList_append_sl (v := u7) (.tmp 41) (.tmp 43) (by rfl) rfl rfl HOA.out rfl HSl.out (by simp only [List.length_cons, List.length_nil]; omega) (by simp; exact Nat.le_succ_of_le HBase.out) ?_; intro v2 w2 h2 g2 l2; have HT2 : Hid (RTx w w2 s a v2 (i + 1 + 0) (k + 1 + 0) (xs ++ [s[i].toNat])) := HX.app h2 g2 (by omega) hq; clear h2 g2 l2)
            exact ⟨⟨i + 1, k + 1, _, by go_num, by omega, HT2.out⟩, by simp [intOf]; omega⟩
    · have i1 : ¬ (i : Int) < (s.size : Int) := by omega
      have hby := txt_none HXe.out hlt
      have hq := ht.wrong (by rw [hby]; decide) (by rw [hby]; decide) (by rw [hby]; decide)
      have HV : Hid (rtextV a (textF ((sb s).drop (a + 1))) = .tuple #[.string (mkS []), .int .i64 (i : Int), .int .i64 (i : Int)]) := by
        show _ = _
        rw [show textF _ = _ from hq, HXe.out]
        rfl
      clear hq hby ht HX
      go_wp2
      go_ret3
      rw [HV.out]
      exact ⟨rfl, HBl.out⟩
end Go.Proofs.YtlhecgokedckdaaDoor
