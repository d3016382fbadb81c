/- The document's own answer to chapter 5: Quote. -/
import Derived.Test.YtlhecgokedckdaaDoorRefB
import Derived.Test.YtlhecgokedckdaaDoorScQuote
namespace Go.Proofs.YtlhecgokedckdaaDoor
open Go.RowKit Sc
set_option maxRecDepth 100000 in
set_option maxHeartbeats 1000000 in
theorem rQuote_any (s : ByteArray) (hs : s.size ≤ 16777216) (w : World) :
    Calls Tryd.prog 11 #[.string s] w fun e w' => ∃ v, e = .returned v ∧ Own w' w.heap.size v (Sc.quoteF (sb s)) ∧ Below w.heap.size w w' := by
  have HL : Hid ((sb s).length = s.size) := sb_length s
  have HO0 : Hid (Own (w.alloc (.cells #[.int .u8 34] 5)) w.heap.size (.slice (some ⟨w.heap.size, 0, none⟩) 1 1) ([34] ++ ((sb s).take 0).flatMap Sc.spellF)) := own_one (z := 34) w
  go_enter Tryd.func11, Tryd.ntmps11
  go_wp2_with fail
  go_loopw [4, 5] (fun o i wr => ∃ k : Nat, k ≤ s.size ∧ i = .int .i64 (k : Int) ∧ Hid (Own wr w.heap.size o ([34] ++ ((sb s).take k).flatMap Sc.spellF)) ∧ Hid (Below w.heap.size w wr)) (fun _ i _ => s.size - (intOf i).toNat)
  case atStart => exact ⟨0, by omega, rfl, HO0, (Below.refl _ _).alloc (Nat.le_refl _) _⟩
  case round =>
    obtain ⟨k, hk, rfl, HO, HB⟩ := hrel
    clear HO0
    have hll := Sc.spells_len ((sb s).take k)
    have hl1 : ([34] ++ ((sb s).take k).flatMap Sc.spellF).length ≤ 67108865 := by
      rw [List.length_append]
      simp only [List.length_cons, List.length_nil]
      rw [List.length_take] at hll
      omega
    have hsz := HB.out.size
    by_cases hlt : k < s.size
    · have hzb : s[k].toNat < 256 := s[k].toNat_lt
      have hsn := Sc.spells_snoc (sb s) k (by rw [HL.out]; exact hlt)
      rw [sb_get s k hlt] at hsn
      have HSn : Hid (((sb s).take (k + 1)).flatMap Sc.spellF = ((sb s).take k).flatMap Sc.spellF ++ Sc.spellF s[k].toNat) := hsn
      have HOA : Hid (∀ X, Own (wr.alloc X) w.heap.size u4 ([34] ++ ((sb s).take k).flatMap Sc.spellF)) := fun X => HO.out.below ((Below.refl _ _).alloc (Nat.le_refl _) _)
      have HOd : Hid (∀ X, Own (wr.alloc X).drew w.heap.size u4 ([34] ++ ((sb s).take k).flatMap Sc.spellF)) := fun X => HO.out.below ((Below.refl _ _).alloc (Nat.le_refl _) _).drew
      have i2 : (k : Int) < (s.size : Int) := by omega
      clear hsn hll
      by_cases e1 : s[k].toNat = 10
      · have HE : Hid (Sc.spellF s[k].toNat = [92, 110]) := by show _ = _; rw [e1]; rfl
        have p10 : ((s[k].toNat : Int) == 10) = true := by rw [e1]; rfl
        have HSl : Hid (Sl (wr.alloc (.cells #[.int .u8 92, .int .u8 110] 5)) (.slice (some ⟨wr.heap.size, 0, none⟩) 2 2) [92, 110]) := sl_bytes wr [92, 110] (by intro z hz; simp at hz; omega) (by simp)
        go_wp2_with (at_builtin; refine wpList_append_sl (v := u4) (.tmp 24) (.tmp 25) (by rfl) rfl rfl (HOA.out _) rfl HSl.out (by simp only [List.length_cons, List.length_nil]; omega) (by simp; omega) ?_; intro v2 w2 h2 g2 l2; have HP : Hid (SpPost wr w.heap.size u4 ([34] ++ ((sb s).take k).flatMap Sc.spellF) [92, 110] v2 w2) := SpPost.mk h2 g2 l2; clear h2 g2 l2)
        refine ⟨⟨k + 1, by omega, by go_num, ?_, HB.out.trans (HP.out.2.1.below HB.out.size (fun j _ e => (HO.out.lt j e).1))⟩, by simp [intOf]; omega⟩
        have := HP.out.1
        rw [List.append_assoc, ← HE.out, ← HSn.out] at this
        exact this
      · have p10 : ((s[k].toNat : Int) == 10) = false := by exact beq_eq_false_iff_ne.2 (by omega)
        by_cases e2 : s[k].toNat = 9
        · have HE : Hid (Sc.spellF s[k].toNat = [92, 116]) := by show _ = _; rw [e2]; rfl
          have p9 : ((s[k].toNat : Int) == 9) = true := by rw [e2]; rfl
          have HSl : Hid (Sl (wr.alloc (.cells #[.int .u8 92, .int .u8 116] 5)) (.slice (some ⟨wr.heap.size, 0, none⟩) 2 2) [92, 116]) := sl_bytes wr [92, 116] (by intro z hz; simp at hz; omega) (by simp)
          go_wp2_with (at_builtin; refine wpList_append_sl (v := u4) (.tmp 30) (.tmp 31) (by rfl) rfl rfl (HOA.out _) rfl HSl.out (by simp only [List.length_cons, List.length_nil]; omega) (by simp; omega) ?_; intro v2 w2 h2 g2 l2; have HP : Hid (SpPost wr w.heap.size u4 ([34] ++ ((sb s).take k).flatMap Sc.spellF) [92, 116] v2 w2) := SpPost.mk h2 g2 l2; clear h2 g2 l2)
          refine ⟨⟨k + 1, by omega, by go_num, ?_, HB.out.trans (HP.out.2.1.below HB.out.size (fun j _ e => (HO.out.lt j e).1))⟩, by simp [intOf]; omega⟩
          have := HP.out.1
          rw [List.append_assoc, ← HE.out, ← HSn.out] at this
          exact this
        · have p9 : ((s[k].toNat : Int) == 9) = false := by exact beq_eq_false_iff_ne.2 (by omega)
          by_cases e3 : s[k].toNat = 92 ∨ s[k].toNat = 34
          · rcases e3 with e3 | e3
            · have HE : Hid (Sc.spellF s[k].toNat = [92, 92]) := by show _ = _; rw [e3]; rfl
              have p34 : ((s[k].toNat : Int) == 34) = false := by exact beq_eq_false_iff_ne.2 (by omega)
              have p92 : ((s[k].toNat : Int) == 92) = true := by rw [e3]; rfl
              have HSl : Hid (Sl (wr.alloc (.cells #[.int .u8 92, .int .u8 92] 5)) (.slice (some ⟨wr.heap.size, 0, none⟩) 2 2) [92, 92]) := sl_bytes wr [92, 92] (by intro z hz; simp at hz; omega) (by simp)
              go_wp2_with (at_builtin; refine wpList_append_sl (v := u4) (.tmp 40) (.tmp 42) (by rfl) rfl rfl (HOA.out _) rfl HSl.out (by simp only [List.length_cons, List.length_nil]; omega) (by simp; omega) ?_; intro v2 w2 h2 g2 l2; have HP : Hid (SpPost wr w.heap.size u4 ([34] ++ ((sb s).take k).flatMap Sc.spellF) [92, 92] v2 w2) := SpPost.mk h2 g2 l2; clear h2 g2 l2)
              refine ⟨⟨k + 1, by omega, by go_num, ?_, HB.out.trans (HP.out.2.1.below HB.out.size (fun j _ e => (HO.out.lt j e).1))⟩, by simp [intOf]; omega⟩
              have := HP.out.1
              rw [List.append_assoc, ← HE.out, ← HSn.out] at this
              exact this
            · have HE : Hid (Sc.spellF s[k].toNat = [92, 34]) := by show _ = _; rw [e3]; rfl
              have p34 : ((s[k].toNat : Int) == 34) = true := by rw [e3]; rfl
              have HSl : Hid (Sl (wr.alloc (.cells #[.int .u8 92, .int .u8 34] 5)) (.slice (some ⟨wr.heap.size, 0, none⟩) 2 2) [92, 34]) := sl_bytes wr [92, 34] (by intro z hz; simp at hz; omega) (by simp)
              go_wp2_with (at_builtin; refine wpList_append_sl (v := u4) (.tmp 40) (.tmp 42) (by rfl) rfl rfl (HOA.out _) rfl HSl.out (by simp only [List.length_cons, List.length_nil]; omega) (by simp; omega) ?_; intro v2 w2 h2 g2 l2; have HP : Hid (SpPost wr w.heap.size u4 ([34] ++ ((sb s).take k).flatMap Sc.spellF) [92, 34] v2 w2) := SpPost.mk h2 g2 l2; clear h2 g2 l2)
              refine ⟨⟨k + 1, by omega, by go_num, ?_, HB.out.trans (HP.out.2.1.below HB.out.size (fun j _ e => (HO.out.lt j e).1))⟩, by simp [intOf]; omega⟩
              have := HP.out.1
              rw [List.append_assoc, ← HE.out, ← HSn.out] at this
              exact this
          · have p34 : ((s[k].toNat : Int) == 34) = false := by exact beq_eq_false_iff_ne.2 (by omega)
            have p92 : ((s[k].toNat : Int) == 92) = false := by exact beq_eq_false_iff_ne.2 (by omega)
            by_cases e4 : s[k].toNat < 32 ∨ 126 < s[k].toNat
            · have HE : Hid (Sc.spellF s[k].toNat = [92, 120, Sc.hexd (s[k].toNat / 16), Sc.hexd (s[k].toNat % 16)]) := by show _ = _; unfold Sc.spellF; rw [if_neg e1, if_neg e2, if_neg e3, if_pos e4]
              have hd1 : ((s[k].toNat : Nat) : Int) / 16 = ((s[k].toNat / 16 : Nat) : Int) := by omega
              have hd3 : ((s[k].toNat : Nat) : Int).tdiv 16 = ((s[k].toNat / 16 : Nat) : Int) := rfl
              have hd2 : ((s[k].toNat : Nat) : Int).tmod 16 = ((s[k].toNat % 16 : Nat) : Int) := rfl
              have x1 := hex_index (s[k].toNat / 16) (by omega)
              have x2 := hex_index (s[k].toNat % 16) (by omega)
              have h1 := Sc.hexd_lt (s[k].toNat / 16) (by omega)
              have h2 := Sc.hexd_lt (s[k].toNat % 16) (by omega)
              have l1 : s[k].toNat / 16 < 16 := by omega
              have l2 : s[k].toNat % 16 < 16 := by omega
              generalize Sc.hexd (s[k].toNat / 16) = y1 at *
              generalize Sc.hexd (s[k].toNat % 16) = y2 at *
              generalize s[k].toNat / 16 = d1 at *
              generalize s[k].toNat % 16 = d2 at *
              have wrp : ∀ d, d < 16 → IntKind.u8.wrap ((d : Nat) : Int) = ((d : Nat) : Int) := fun d hd => by
                have : ∀ t : Fin 16, IntKind.u8.wrap ((t.val : Nat) : Int) = ((t.val : Nat) : Int) := by decide +kernel
                exact this ⟨d, hd⟩
              have wr1 := wrp d1 l1
              have wr2 := wrp d2 l2
              clear wrp
              have HSl : Hid (∀ X, Sl (wr.alloc (.cells #[.int .u8 92, .int .u8 120, .int .u8 (y1 : Int), .int .u8 (y2 : Int)] 5)).drew (.slice (some ⟨wr.heap.size, 0, none⟩) 4 4) [92, 120, y1, y2] ∧ X = X) := fun (X : Nat) => ⟨(sl_bytes wr [92, 120, y1, y2] (by intro z hz; simp at hz; omega) (by simp)).below (Below.refl _ _).drew, rfl⟩
              rcases e4 with e4 | e4
              · have q5 : (s[k].toNat : Int) < 32 := by omega
                go_wp2_with fail
                go_region_law (refine step_append_sl (v := u4) (by kernel_rfl) (.tmp 51) (.tmp 60) (by rfl) (by rfl) (by exact HOd.out _) (by rfl) (by exact (HSl.out 0).1) (by simp only [List.length_cons, List.length_nil]; omega) (by simp; omega) ?_; intro v2 w2 h2 g2 l2; have HP : Hid (SpPost wr w.heap.size u4 ([34] ++ ((sb s).take k).flatMap Sc.spellF) [92, 120, y1, y2] v2 w2) := SpPost.mkd h2 g2 l2; clear h2 g2 l2)
                all_goals
                  go_wp2_with fail
                  refine ⟨⟨k + 1, by omega, by go_num, ?_, HB.out.trans (HP.out.2.1.below HB.out.size (fun j _ e => (HO.out.lt j e).1))⟩, by simp [intOf]; omega⟩
                  have := HP.out.1
                  rw [List.append_assoc, ← HE.out, ← HSn.out] at this
                  exact this
              · have q5 : ¬ (s[k].toNat : Int) < 32 := by omega
                have q6 : (126 : Int) < (s[k].toNat : Int) := by omega
                go_wp2_with fail
                go_region_law (refine step_append_sl (v := u4) (by kernel_rfl) (.tmp 51) (.tmp 60) (by rfl) (by rfl) (by exact HOd.out _) (by rfl) (by exact (HSl.out 0).1) (by simp only [List.length_cons, List.length_nil]; omega) (by simp; omega) ?_; intro v2 w2 h2 g2 l2; have HP : Hid (SpPost wr w.heap.size u4 ([34] ++ ((sb s).take k).flatMap Sc.spellF) [92, 120, y1, y2] v2 w2) := SpPost.mkd h2 g2 l2; clear h2 g2 l2)
                all_goals
                  go_wp2_with fail
                  refine ⟨⟨k + 1, by omega, by go_num, ?_, HB.out.trans (HP.out.2.1.below HB.out.size (fun j _ e => (HO.out.lt j e).1))⟩, by simp [intOf]; omega⟩
                  have := HP.out.1
                  rw [List.append_assoc, ← HE.out, ← HSn.out] at this
                  exact this
            · have HE : Hid (Sc.spellF s[k].toNat = [s[k].toNat]) := by show _ = _; unfold Sc.spellF; rw [if_neg e1, if_neg e2, if_neg e3, if_neg e4]
              have q5 : ¬ (s[k].toNat : Int) < 32 := by omega
              have q6 : ¬ (126 : Int) < (s[k].toNat : Int) := by omega
              have HSl : Hid (Sl (wr.alloc (.cells #[.int .u8 (s[k].toNat : Int)] 5)) (.slice (some ⟨wr.heap.size, 0, none⟩) 1 1) [s[k].toNat]) := sl_bytes wr [s[k].toNat] (by intro z hz; simp at hz; omega) (by simp)
              go_wp2_with (at_builtin; refine wpList_append_sl (v := u4) (.tmp 17) (.tmp 19) (by rfl) rfl rfl (HOA.out _) rfl HSl.out (by simp only [List.length_cons, List.length_nil]; omega) (by simp; omega) ?_; intro v2 w2 h2 g2 l2; have HP : Hid (SpPost wr w.heap.size u4 ([34] ++ ((sb s).take k).flatMap Sc.spellF) [s[k].toNat] v2 w2) := SpPost.mk h2 g2 l2; clear h2 g2 l2)
              refine ⟨⟨k + 1, by omega, by go_num, ?_, HB.out.trans (HP.out.2.1.below HB.out.size (fun j _ e => (HO.out.lt j e).1))⟩, by simp [intOf]; omega⟩
              have := HP.out.1
              rw [List.append_assoc, ← HE.out, ← HSn.out] at this
              exact this
    · obtain rfl : k = s.size := by omega
      have hfull : (sb s).take s.size = sb s := by rw [← HL.out, List.take_length]
      have HO1 : Hid (Own wr w.heap.size u4 ([34] ++ (sb s).flatMap Sc.spellF)) := by rw [← hfull]; exact HO.out
      have HSl : Hid (Sl (wr.alloc (.cells #[.int .u8 34] 5)) (.slice (some ⟨wr.heap.size, 0, none⟩) 1 1) [34]) := sl_bytes wr [34] (by intro z hz; simp at hz; omega) (by simp)
      have HOA : Hid (∀ X, Own (wr.alloc X) w.heap.size u4 ([34] ++ (sb s).flatMap Sc.spellF)) := fun X => HO1.out.below ((Below.refl _ _).alloc (Nat.le_refl _) _)
      rw [hfull] at hl1
      clear hfull hll
      go_wp2_with (at_builtin; refine wpList_append_sl (v := u4) (.tmp 62) (.tmp 63) (by rfl) rfl rfl (HOA.out _) rfl HSl.out (by simp only [List.length_cons, List.length_nil]; omega) (by simp; omega) ?_; intro v2 w2 h2 g2 l2; have HP : Hid (SpPost wr w.heap.size u4 ([34] ++ (sb s).flatMap Sc.spellF) [34] v2 w2) := SpPost.mk h2 g2 l2; clear h2 g2 l2)
      go_ret
      exact ⟨_, rfl, HP.out.1, HB.out.trans (HP.out.2.1.below HB.out.size (fun j _ e => (HO.out.lt j e).1))⟩
end Go.Proofs.YtlhecgokedckdaaDoor
