/- SpanPoints: the law (written by parts/gen_spoints.py). Own work. -/
import Derived.Test.YtogcpogoamoljaaSpSw
namespace Go.Proofs.Ytogcpogoamoljaa
open Go.RowKit Go.Shelf Go.Proofs.Ytogcpogoamoljaa.Sp Go.Proofs.Ytogcpogoamoljaa.U8
set_option maxHeartbeats 16000000 in
set_option maxRecDepth 4000 in
theorem spanPoints_any {w : World} {vl : Value} {os : List PStep} (hl : PScr w vl os) :
    Calls Try.prog 3 #[vl] w fun e w' => e = .returned (.bool true) ∧ Below w.heap.size w w' := by
  have HL : Hid (PScr w vl os) := hl
  obtain ⟨ao, cap, rfl, l0, l1, -⟩ := hl
  unfold maxLen at l1
  have hz := pts_zero.1
  obtain ⟨n, hn⟩ : ∃ n, os.length = n := ⟨_, rfl⟩
  have HN : Hid (os.length = n) := hn
  rw [hn] at HL l0 ⊢
  clear hn
  have HE6 : Hid (Enters Try.prog 6) := enters_of Try.func6 (by kernel_rfl) rfl
  have HE5 : Hid (Enters Try.prog 5) := enters_of Try.func5 (by kernel_rfl) rfl
  have HE8 : Hid (Enters Try.prog 8) := enters_of Try.func8 (by kernel_rfl) rfl
  have HPr : Hid (∀ (a b : Int), (0 ≤ a ∧ a ≤ 18446744073709551615) → (0 ≤ b ∧ b ≤ 18446744073709551615) → ∀ W, Calls Try.prog 6 #[.int .u64 a, .int .u64 b] W fun e w' => ∃ u, e = .returned u ∧ u = .agg #[.int .u8 (a % 256), .int .u8 (b % 256)] ∧ ∃ X, w' = W.alloc X) := fun a b ha hb W => (pair_any ha hb W).mono fun e w' h => ⟨_, h.1, rfl, h.2⟩
  go_enter Try.func3, Try.ntmps3
  go_upto_region 2 with fail
  obtain ⟨W1, hW1⟩ : ∃ W1, w.alloc (Obj.cells #[Value.slice none 0 0] 25) = W1 := ⟨_, rfl⟩
  have HF1 : Hid (W1.heap[w.heap.size]? = some (.cells #[.slice none 0 0] 25 (0, 0))) := hW1 ▸ heap_alloc_new w _
  have HB1 : Hid (Below w.heap.size w W1) := hW1 ▸ (Below.refl _ _).alloc (Nat.le_refl _) _
  have HLt1 : Hid (w.heap.size < W1.heap.size) := (Array.getElem?_eq_some_iff.1 HF1.out).1
  rw [hW1]
  clear hW1
  have HFk : Hid (∀ W', Below W1.heap.size W1 W' → W'.cell? ⟨w.heap.size, 0, none⟩ = some (.slice none 0 0)) := fun W' h => cell_at ((h.block _ HLt1.out).trans HF1.out)
  go_cut [4] (fun y wx => ∃ g v0 xs0, y = .slice (some ⟨g, 0, none⟩) 1 1 ∧ Hid (RowS wx w.heap.size y [⟨v0, xs0, fun _ => false⟩]) ∧ Hid (Own wx w.heap.size v0 xs0) ∧ Hid (Canon 255 xs0) ∧ Hid (∀ q, In q xs0 ↔ In q [] ∨ ((3 : Int) ≤ q ∧ q ≤ 9)) ∧ Hid (Below W1.heap.size W1 wx))
  case first =>
    refine wp_region_held_drew (S := fun w' => w'.cell? ⟨w.heap.size, 0, none⟩ = some (.slice none 0 0)) (by kernel_rfl) (HFk.out _ (Below.refl _ _).drew) (fun hHeld => ?_)
    simp only [List.size_toArray, List.length_cons, List.length_nil]
    refine takeH (i := 0) (d := 12) (v := .agg #[.slice none 0 0]) rfl rfl (by kernel_rfl) (by kernel_rfl) (by kernel_rfl) (fun _ _ _ h => h) (Or.inl ⟨by kernel_rfl, by intro w hSw; (try dsimp only at hSw); go_simp⟩) (by assumption) ?_
    refine wpAnyH_ready (rs := [1]) (by kernel_rfl) (by simp) ?_
    refine readyCall (i := 1) (d := 13) rfl rfl (by kernel_rfl) 6 #[.const (.int .u64 3), .const (.int .u64 9)] #[30, 30] rfl HE6.out #[.int .u64 3, .int .u64 9] (by simp [Act.eval, Act.put]) (HPr.out 3 9 (by omega) (by omega) _) (fun u w' ⟨_, X, e⟩ => e ▸ HFk.out _ ((Below.refl _ _).drew.alloc (Nat.le_refl _) X)) ?_ AllReadyH.nil
    rintro u w3 ⟨rfl, X, rfl⟩ hHeld3
    have HB3 : Hid (Below W1.heap.size W1 (W1.drew.alloc X)) := (Below.refl _ _).drew.alloc (Nat.le_refl _) X
    refine wpAnyH_ready (rs := [2]) (by kernel_rfl) (by simp) ?_
    refine readyCall (i := 2) (d := 14) rfl rfl (by kernel_rfl) 5 #[.tmp 12, .tmp 13] #[25, 28] rfl HE5.out #[.agg #[.slice none 0 0], .agg #[.int .u8 (3 % 256), .int .u8 (9 % 256)]] (by simp [Act.eval, Act.put]) (withP (SV.nil _) (canon_nil _) (by omega) (by omega)) (fun u w' ⟨_, _, _, _, _, _, _, _, h⟩ => HFk.out _ (HB3.out.trans (h.mono HB3.out.size))) ?_ AllReadyH.nil
    rintro u w4 ⟨a4, n4, c4, xs4, rfl, ho4, hc4, hi4, hb4⟩ hHeld4
    have HB4 : Hid (Below W1.heap.size W1 w4) := HB3.out.trans (hb4.mono HB3.out.size)
    refine wpAnyH_ready (rs := [3]) (by kernel_rfl) (by simp) ?_
    refine readyNew (i := 3) (d := 15) rfl rfl (by kernel_rfl) (.slice (some ⟨w4.heap.size, 0, none⟩) 1 1) (buildS_exec (v := .slice a4 n4 c4) (.tmp 14) rfl (by simp [Act.eval, Act.put])) (HFk.out _ (HB4.out.alloc HB4.out.size _)) (fun hHeld5 => ?_) AllReadyH.nil
    have HB5 : Hid (Below W1.heap.size W1 (w4.alloc (.cells #[.slice a4 n4 c4] 25))) := HB4.out.alloc HB4.out.size _
    have HR5 : Hid (RowS (w4.alloc (.cells #[.slice a4 n4 c4] 25)) w.heap.size (.slice (some ⟨w4.heap.size, 0, none⟩) 1 1) [⟨.slice a4 n4 c4, xs4, fun _ => false⟩]) := rowS_one _ (Nat.le_trans (Nat.le_of_lt HLt1.out) HB4.out.size) _ (xs4, fun _ => false)
    refine takeH (i := 4) (d := 4) (v := .slice (some ⟨w4.heap.size, 0, none⟩) 1 1) rfl rfl (by kernel_rfl) (by kernel_rfl) (by kernel_rfl) (fun _ _ _ h => h) (Or.inl ⟨by kernel_rfl, by intro w hSw; (try dsimp only at hSw); go_simp⟩) (by assumption) ?_
    refine wpAnyH_done (by kernel_rfl) ?_ _
    simp only [Act.put, List.setIfInBounds_toArray, List.set_cons_succ, List.set_cons_zero]
    go_wp2_with fail
    go_meet
    exact ⟨_, _, xs4, rfl, HR5.out, (ho4.below ((Below.refl _ _).alloc (Nat.le_refl _) _) (Nat.le_refl _)).lower (Nat.le_trans (Nat.le_of_lt HLt1.out) (Nat.le_of_lt (by simp))), hc4, hi4, HB5.out⟩
  case rest =>
    obtain ⟨g0, v0, xs0, rfl, HR0, HO0, HC0, HI0, HB2⟩ := hcut
    have HM : Hid (∀ W, Calls Try.prog 7 #[.agg (ptsV fun _ => false), .int .u64 3, .int .u64 9, .bool true] W fun e w' => e = .returned (.agg (ptsV (markF (fun _ => false) 3 9 true))) ∧ Below W.heap.size W w') := fun W => mark_any rfl rfl W
    have HBw : Hid (Below w.heap.size w wc) := HB1.out.trans (HB2.out.mono HB1.out.size)
    go_upto_region 4 with (first | (go_at_call 7; refine (HM.out _).mono ?_; rintro e w4 ⟨rfl, hb4⟩; have HB4 : Hid (Below wc.heap.size wc w4) := hb4; clear hb4) | (refine wpList_buildI (f := markF (fun _ => false) 3 9 true) (by rfl) (.tmp 17) (by rfl) (by rfl) ?_))
    obtain ⟨e0, he0⟩ : ∃ e0 : Ent, e0 = ⟨v0, xs0, markF (fun _ => false) 3 9 true⟩ := ⟨_, rfl⟩
    obtain ⟨W5, hW5⟩ : ∃ W5, w4.alloc (Obj.cells (ptsV (markF (fun _ => false) 3 9 true)) 33) = W5 := ⟨_, rfl⟩
    have HB5 : Hid (Below wc.heap.size wc W5) := hW5 ▸ HB4.out.alloc HB4.out.size _
    have H5 : Hid (PS w W5 (.slice (some ⟨g0, 0, none⟩) 1 1) (.slice (some ⟨w4.heap.size, 0, none⟩) 1 1) [e0]) := by
      refine ⟨?_, ?_, ?_, HBw.out.trans (HB5.out.mono HBw.out.size)⟩
      · rw [he0]
        exact owns_below HR0.out HB5.out
      · rw [he0, ← hW5]
        exact rowI_one w4 (Nat.le_trans HBw.out.size HB4.out.size) _ (v0, xs0)
      · intro e he
        obtain rfl := List.mem_singleton.1 he
        rw [he0]
        exact ⟨HO0.out.below HB5.out (Nat.le_refl _), HC0.out, Pts.mark (f := fun _ => false) (xs := []) (fun q _ => by simp [in_nil]) (fun q hq => by
          rw [HI0.out]
          by_cases c : 3 ≤ q ∧ q ≤ 9
          · rw [if_pos c]; exact ⟨fun _ => rfl, fun _ => .inr (by omega)⟩
          · rw [if_neg c]; exact ⟨fun k => k.resolve_right (by omega), .inl⟩)⟩
    obtain ⟨gi, hgi⟩ : ∃ gi, w4.heap.size = gi := ⟨_, rfl⟩
    rw [hgi] at H5 ⊢
    have HF5 : Hid (∀ W', Below W5.heap.size W5 W' → W'.cell? ⟨w.heap.size, 0, none⟩ = some (.slice none 0 0)) := fun W' h => HFk.out _ (HB2.out.trans ((HB5.out.trans (h.mono HB5.out.size)).mono HB2.out.size))
    rw [hW5]
    have HV0 : Hid (e0.v = v0) := he0 ▸ rfl
    clear hW5 hgi he0 HR0 HO0 HC0 HI0 HM HB4
    obtain ⟨f0, hf0⟩ : ∃ f0, e0.f = f0 := ⟨_, rfl⟩
    have HS5 : Hid (∀ W', Below W5.heap.size W5 W' → (W'.cell? ⟨w.heap.size, 0, none⟩ = some (.slice none 0 0) ∧ W'.cell? ⟨g0, 0, none⟩ = some v0) ∧ PtsIn W' gi 0 f0) := fun W' h => by
      have hp := H5.out.below h
      obtain ⟨g, c, e1, _, _, _, _, hc, _⟩ := owns_some hp.1 (by simp)
      obtain ⟨g', c', e1', _, _, _, _, hc', _⟩ := owns_some hp.2.1 (by simp)
      cases e1
      cases e1'
      refine ⟨⟨HF5.out _ h, hc 0 _ (by rw [← HV0.out]; rfl)⟩, fun j hj => ?_⟩
      have := flat_get [e0] 0 (by simp) j hj
      rw [Nat.zero_mul] at this
      rw [← hf0]
      exact hc' (0 + j) _ this
    have HG0 : Hid (Good W5 w.heap.size e0) := H5.out.2.2.1 e0 (by simp)
    go_cut [32] (fun y wx => y = .bool false ∧ Hid (Below W5.heap.size W5 wx))
    case first =>
      refine wp_region_held_drew (S := fun w' => (w'.cell? ⟨w.heap.size, 0, none⟩ = some (.slice none 0 0) ∧ w'.cell? ⟨g0, 0, none⟩ = some v0) ∧ PtsIn w' gi 0 f0) (by kernel_rfl) (HS5.out _ (Below.refl _ _).drew) (fun hHeld => ?_)
      simp only [List.size_toArray, List.length_cons, List.length_nil]
      refine takeH (i := 0) (d := 19) (v := .slice (some ⟨g0, 0, none⟩) 1 1) rfl rfl (by kernel_rfl) (by kernel_rfl) (by kernel_rfl) (fun _ _ _ h => h) (Or.inl ⟨by kernel_rfl, by intro w hSw; (try dsimp only at hSw); obtain ⟨⟨hSa, hSb⟩, hSc⟩ := hSw; go_simp⟩) (by assumption) ?_
      refine takeH (i := 1) (d := 20) (v := .pointer (some ⟨g0, 0, none⟩)) rfl rfl (by kernel_rfl) (by kernel_rfl) (by kernel_rfl) (fun _ _ _ h => h) (Or.inl ⟨by kernel_rfl, by intro w hSw; (try dsimp only at hSw); obtain ⟨⟨hSa, hSb⟩, hSc⟩ := hSw; go_simp⟩) (by assumption) ?_
      refine takeH (i := 2) (d := 21) (v := .agg #[v0]) rfl rfl (by kernel_rfl) (by kernel_rfl) (by kernel_rfl) (fun _ _ _ h => h) (Or.inl ⟨by kernel_rfl, by intro w hSw; (try dsimp only at hSw); obtain ⟨⟨hSa, hSb⟩, hSc⟩ := hSw; go_simp⟩) (by assumption) ?_
      refine takeH (i := 3) (d := 22) (v := .slice (some ⟨gi, 0, none⟩) 1 1) rfl rfl (by kernel_rfl) (by kernel_rfl) (by kernel_rfl) (fun _ _ _ h => h) (Or.inl ⟨by kernel_rfl, by intro w hSw; (try dsimp only at hSw); obtain ⟨⟨hSa, hSb⟩, hSc⟩ := hSw; go_simp⟩) (by assumption) ?_
      refine takeH (i := 4) (d := 23) (v := .pointer (some ⟨gi, 0, none⟩)) rfl rfl (by kernel_rfl) (by kernel_rfl) (by kernel_rfl) (fun _ _ _ h => h) (Or.inl ⟨by kernel_rfl, by intro w hSw; (try dsimp only at hSw); obtain ⟨⟨hSa, hSb⟩, hSc⟩ := hSw; go_simp⟩) (by assumption) ?_
      refine takeH (i := 5) (d := 24) (v := .agg (ptsV f0)) rfl rfl (by kernel_rfl) (by kernel_rfl) (by kernel_rfl) (fun _ _ _ h => h) (Or.inl ⟨by kernel_rfl, fun w' hSw => loadIn_exec (x := .tmp 23) rfl (by simp [Act.eval, Act.put]) hSw.2⟩) (by assumption) ?_
      refine wpAnyH_ready (rs := [6]) (by kernel_rfl) (by simp) ?_
      have HT6 : Hid (∀ W', Below W5.heap.size W5 W' → Calls Try.prog 8 #[.agg #[v0], .agg (ptsV f0)] W' fun e w' => ∃ u, e = .returned u ∧ u = .bool true ∧ Below W5.heap.size W5 w') := fun W' h => by
        have hg := HG0.out.below h
        rw [← HV0.out, ← hf0]
        exact (told_any hg.1.sv hg.2.1 hg.2.2).mono fun e w' k => ⟨_, k.1, rfl, h.trans (k.2.mono h.size)⟩
      have HT0 : Hid (∀ W', Below W5.heap.size W5 W' → Calls Try.prog 8 #[.agg #[.slice none 0 0], .agg (ptsV fun _ => false)] W' fun e w' => ∃ u, e = .returned u ∧ u = .bool true ∧ Below W5.heap.size W5 w') := fun W' h => (told_any (SV.nil _) (canon_nil _) (fun q _ => by simp [in_nil])).mono fun e w' k => ⟨_, k.1, rfl, h.trans (k.2.mono h.size)⟩
      refine readyCall (i := 6) (d := 25) rfl rfl (by kernel_rfl) 8 #[.tmp 21, .tmp 24] #[25, 33] rfl HE8.out #[.agg #[v0], .agg (ptsV f0)] (by simp [Act.eval, Act.put]) (HT6.out _ (Below.refl _ _).drew) (fun u w' ⟨_, h⟩ => HS5.out _ h) ?_ AllReadyH.nil
      rintro u w6 ⟨rfl, hb6⟩ hHeld6
      refine takeH (i := 7) (d := 26) (v := .bool false) rfl rfl (by kernel_rfl) (by kernel_rfl) (by kernel_rfl) (fun _ _ _ h => h) (Or.inl ⟨by kernel_rfl, by intro w hSw; (try dsimp only at hSw); obtain ⟨⟨hSa, hSb⟩, hSc⟩ := hSw; go_simp⟩) (by assumption) ?_
      refine takeH (i := 8) (d := 27) (v := .bool false) rfl rfl (by kernel_rfl) (by kernel_rfl) (by kernel_rfl) (fun _ _ _ h => h) (Or.inl ⟨by kernel_rfl, by intro w hSw; (try dsimp only at hSw); obtain ⟨⟨hSa, hSb⟩, hSc⟩ := hSw; go_simp⟩) (by assumption) ?_
      refine takeH (i := 9) (d := 28) (v := .agg #[.slice none 0 0]) rfl rfl (by kernel_rfl) (by kernel_rfl) (by kernel_rfl) (fun _ _ _ h => h) (Or.inl ⟨by kernel_rfl, by intro w hSw; (try dsimp only at hSw); obtain ⟨⟨hSa, hSb⟩, hSc⟩ := hSw; go_simp⟩) (by assumption) ?_
      refine takeH (i := 10) (d := 29) (v := .agg (ptsV fun _ => false)) rfl rfl (by kernel_rfl) (by kernel_rfl) (by kernel_rfl) (fun _ _ _ h => h) (Or.inl ⟨by kernel_rfl, by intro w hSw; (try dsimp only at hSw); obtain ⟨⟨hSa, hSb⟩, hSc⟩ := hSw; go_simp⟩) (by assumption) ?_
      refine wpAnyH_ready (rs := [11]) (by kernel_rfl) (by simp) ?_
      refine readyCall (i := 11) (d := 30) rfl rfl (by kernel_rfl) 8 #[.tmp 28, .tmp 29] #[25, 33] rfl HE8.out #[.agg #[.slice none 0 0], .agg (ptsV fun _ => false)] (by simp [Act.eval, Act.put]) (HT0.out _ hb6) (fun u w' ⟨_, h⟩ => HS5.out _ h) ?_ AllReadyH.nil
      rintro u w7 ⟨rfl, hb7⟩ hHeld7
      refine takeH (i := 12) (d := 31) (v := .bool false) rfl rfl (by kernel_rfl) (by kernel_rfl) (by kernel_rfl) (fun _ _ _ h => h) (Or.inl ⟨by kernel_rfl, by intro w hSw; (try dsimp only at hSw); obtain ⟨⟨hSa, hSb⟩, hSc⟩ := hSw; go_simp⟩) (by assumption) ?_
      refine takeH (i := 13) (d := 32) (v := .bool false) rfl rfl (by kernel_rfl) (by kernel_rfl) (by kernel_rfl) (fun _ _ _ h => h) (Or.inl ⟨by kernel_rfl, by intro w hSw; (try dsimp only at hSw); obtain ⟨⟨hSa, hSb⟩, hSc⟩ := hSw; go_simp⟩) (by assumption) ?_
      have HB7 : Hid (Below W5.heap.size W5 w7) := hb7
      refine wpAnyH_done (by kernel_rfl) ?_ _
      simp only [Act.put, List.setIfInBounds_toArray, List.set_cons_succ, List.set_cons_zero]
      go_wp2_with fail
      go_meet
      exact ⟨rfl, HB7.out⟩
    case rest =>
      obtain ⟨rfl, HB6⟩ := hcut
      have H6 : Hid (PS w wc (.slice (some ⟨g0, 0, none⟩) 1 1) (.slice (some ⟨gi, 0, none⟩) 1 1) [e0]) := H5.out.below HB6.out
      have HB6w : Hid (Below w.heap.size w wc) := H6.out.2.2.2
      clear HF5 HS5 H5 HFk HB5 HB6 HB2 HB1 HF1 HLt1 HG0 HBw
      go_wp2_with fail
      go_loopw [4, 5, 6] (fun vs vi i wr => ∃ (k : Nat) (L : List Ent), k ≤ 60 ∧ L.length = k + 1 ∧ i = .int .i64 (k : Int) ∧ Hid (PS w wr vs vi L)) (fun _ _ i _ => 61 - (intOf i).toNat)
      case atStart => exact ⟨0, [e0], by omega, rfl, rfl, H6.out⟩
      case round =>
        obtain ⟨k, L, hk, hL, rfl, HP⟩ := hrel
        have HLl : Hid (L.length = k + 1) := hL
        obtain ⟨gs, cs, rfl, hgs, _, hcs1, hcs2, hcsc, _⟩ := owns_some HP.out.1 (by omega)
        obtain ⟨gi, ci, rfl, hgi, _, hci1, hci2, hcic, _⟩ := owns_some HP.out.2.1 (by omega)
        rw [hL] at hcs1 hci1 ⊢
        obtain ⟨m, hm⟩ : ∃ m, k + 1 = m := ⟨_, rfl⟩
        have HM : Hid (k + 1 = m) := hm
        rw [hm] at hcs1 hci1 ⊢
        unfold maxLen at hcs2 hci2
        have hRS : Hid (∀ (i : Nat) (hi : i < L.length) (W' : World), Below wr.heap.size wr W' → W'.cell? ⟨gs, i, none⟩ = some L[i].v) := fun i hi W' h => by
          rw [h.cell (p := ⟨gs, i, none⟩) hgs]
          exact hcsc i _ (by rw [List.getElem?_map, List.getElem?_eq_getElem hi]; rfl)
        have hRI : Hid (∀ (i : Nat) (hi : i < L.length) (W' : World), Below wr.heap.size wr W' → PtsIn W' gi (i * 256) L[i].f) := fun i hi W' h j hj => by
          rw [h.cell (p := ⟨gi, i * 256 + j, none⟩) hgi]
          exact hcic _ _ (flat_get L i hi j hj)
        have hgs0 : gs < wr.heap.size := hgs
        clear hcsc hcic hgs hgi
        by_cases hin : k < n ∧ k < 60
        · have d1 : decide ((k : Int) < (n : Int)) = true := decide_eq_true (by omega)
          have d2 : decide ((k : Int) < 60) = true := decide_eq_true (by omega)
          have ki : (k : Int) < (n : Int) := by omega
          have hko : k < os.length := by rw [HN.out]; exact hin.1
          obtain ⟨ao', cap', e', _, _, h5⟩ := HL.out
          obtain ⟨bb, oo, e2, x0, y0, ⟨la, ln, lc, hll⟩, c0, c1, c2, c3, c4, c5⟩ := h5 k hko
          simp only [Value.slice.injEq] at e'
          obtain ⟨q1, q2, q3⟩ := e'
          clear q2 h5
          subst q1
          subst q3
          subst e2
          have hbw := HP.out.2.2.2
          have tr : ∀ {i : Nat} {u : Value}, w.cell? ⟨bb, i, none⟩ = some u → wr.cell? ⟨bb, i, none⟩ = some u := fun {i u} hx => (hbw.cell (p := ⟨bb, i, none⟩) (World.block_lt_of_cell? w _ hx)).trans hx
          replace c0 := tr c0
          replace c1 := tr c1
          replace c2 := tr c2
          replace c3 := tr c3
          replace c4 := tr c4
          replace c5 := tr c5
          obtain ⟨st, hst⟩ : ∃ st, st = os[k] := ⟨_, rfl⟩
          rw [← hst] at c0 c1 c2 c3 c4 c5 x0 y0 hll
          rw [hll] at c5
          have hw1 : IntKind.i64.wrap ((m : Int) - 1) = (k : Int) := by
            rw [show (m : Int) - 1 = (k : Int) by omega]
            exact wrapN (by omega)
          clear hst hko hbw
          obtain ⟨sk, sa, sb, sx, sy, sl⟩ := st
          simp only at c0 c1 c2 c3 c4 c5 x0 y0 hll
          subst hll
          have HWi : Hid (∀ (q : Int) (W : World), Calls Try.prog 9 #[.int .i64 q, .int .i64 0, .int .i64 (k : Int)] W fun e w' => ∃ r : Nat, e = .returned (.int .i64 (r : Int)) ∧ r ≤ k ∧ W = w') := fun q W => bookWithin_any (by omega) W
          have HK60 : Hid (k < 60) := hin.2
          clear hin hm tr hL
          go_upto_region 11 with (first | (go_at_call 9; refine (HWi.out _ _).mono ?_; rintro e w' ⟨ia, rfl, hia, rfl⟩))
          go_upto_region 12 with (first | (go_at_call 9; refine (HWi.out _ _).mono ?_; rintro e w' ⟨ib, rfl, hib, rfl⟩))
          have hiaL : ia < L.length := by have := HLl.out; omega
          have hibL : ib < L.length := by have := HLl.out; omega
          have HGa : Hid (Good wr w.heap.size L[ia]) := HP.out.2.2.1 _ (List.getElem_mem hiaL)
          have HGb : Hid (Good wr w.heap.size L[ib]) := HP.out.2.2.1 _ (List.getElem_mem hibL)
          have HSa : Hid (∀ W', Below wr.heap.size wr W' → W'.cell? ⟨gs, ia, none⟩ = some L[ia].v) := hRS.out ia hiaL
          have HSb : Hid (∀ W', Below wr.heap.size wr W' → W'.cell? ⟨gs, ib, none⟩ = some L[ib].v) := hRS.out ib hibL
          have HIa : Hid (∀ W', Below wr.heap.size wr W' → PtsIn W' gi (ia * 256) L[ia].f) := hRI.out ia hiaL
          have HIb : Hid (∀ W', Below wr.heap.size wr W' → PtsIn W' gi (ib * 256) L[ib].f) := hRI.out ib hibL
          generalize hEa : L[ia] = Ea at HGa HSa HIa
          generalize hEb : L[ib] = Eb at HGb HSb HIb
          clear hEa hEb hiaL hibL hRS hRI
          obtain ⟨va, xa, fa⟩ := Ea
          obtain ⟨vb, xb, fb⟩ := Eb
          obtain ⟨aa, ca, hva, _⟩ := HGa.out.1.sv
          obtain ⟨ab, cb, hvb, _⟩ := HGb.out.1.sv
          simp only at hva hvb
          subst hva
          subst hvb
          obtain ⟨na, hna⟩ : ∃ na, xa.length = na := ⟨_, rfl⟩
          obtain ⟨nb, hnb⟩ : ∃ nb, xb.length = nb := ⟨_, rfl⟩
          rw [hna] at HGa HSa HIa
          rw [hnb] at HGb HSb HIb
          clear hna hnb
          have ia1 : (ia : Int) < (m : Int) := by have := HM.out; omega
          have ib1 : (ib : Int) < (m : Int) := by have := HM.out; omega
          have hsa : ∀ X, (wr.alloc X).cell? ⟨gs, ia, none⟩ = some (.slice aa na ca) := fun X => HSa.out _ ((Below.refl _ _).alloc (Nat.le_refl _) X)
          have HBx : Hid (∀ X Y, Below wr.heap.size wr ((wr.alloc X).alloc Y)) := fun X Y => ((Below.refl _ _).alloc (Nat.le_refl _) _).alloc (by simp) _
          have HPz : Hid (∀ X Y, PtsAt (((wr.alloc X).alloc Y).alloc (.cells (ptsV fun _ => false) 33)) (wr.heap.size + 1 + 1) (fun _ => false)) := fun X Y => by
            have := PtsAt.new ((wr.alloc X).alloc Y) (fun _ => false)
            simpa using this
          clear c0 c1 c2 c3 c4 c5
          go_upto_region 14 with (first | (refine wpList_loadIn (g := gi) (off := ia * 256) (f := fa) (by rfl) (.tmp 65) (by rfl) (by rfl) (by exact HIa.out _ (HBx.out _ _)) ?_) | (refine wpList_store_pts (b := wr.heap.size + 1 + 1) (f := fun _ => false) (g := fa) (by rfl) (.tmp 11) (.tmp 66) (by rfl) (by rfl) (by rfl) (by rfl) (by exact HPz.out _ _) ?_))
          clear hsa
          obtain ⟨W3, hW3⟩ : ∃ W3, (((wr.alloc (Obj.cells #[Value.int IntKind.i64 sk, Value.int IntKind.i64 sa, Value.int IntKind.i64 sb, Value.int IntKind.u64 sx, Value.int IntKind.u64 sy, Value.slice la ln lc] 39)).alloc (Obj.cells #[Value.slice aa na ca] 25)).alloc (Obj.cells (ptsV fun _ => false) 33)).setRow (wr.heap.size + 1 + 1) (ptsV fa) = W3 := ⟨_, rfl⟩
          obtain ⟨st, hst⟩ : ∃ st : PStep, st = ⟨sk, sa, sb, sx, sy, .slice la ln lc⟩ := ⟨_, rfl⟩
          have H3 : Hid (Rd wr W3 st (.slice aa na ca) fa) := hW3 ▸ hst ▸ (Rd.start (wr := wr) ⟨sk, sa, sb, sx, sy, .slice la ln lc⟩ (.slice aa na ca) (fun _ => false)).putT fa
          have HFd : Hid (∀ W' v' f', Rd wr W' st v' f' → W'.cell? ⟨wr.heap.size, 0, none⟩ = some (.int .i64 sk) ∧ W'.cell? ⟨wr.heap.size, 3, none⟩ = some (.int .u64 sx) ∧ W'.cell? ⟨wr.heap.size, 4, none⟩ = some (.int .u64 sy)) := fun W' v' f' h => by
            subst hst
            exact ⟨h.field.1, h.field.2.2.2.1, h.field.2.2.2.2⟩
          have HW : Hid (w.heap.size ≤ wr.heap.size) := HP.out.2.2.2.size
          have hf0 := (HFd.out _ _ _ H3.out).1
          rw [hW3]
          clear hW3 hst HBx HPz HSa HIa HWi
          go_upto_block 2 with fail
          go_cut [69] (fun _ wx => Hid (Rz w wr wx st))
          case first =>
            rename_i J K' hJ hK
            exact switch_any (u8 := undef) (u64 := undef) HE6 HPr y0 x0 HGa HIb HSb HGb H3 HFd HW (by omega) (by omega) hia hib hci1 hcs1 hcs2 hci2 hk hz hgs0 (fun _ _ _ _ _ h => h) hJ hK
          case rest =>
            have H4 := hcut
            obtain ⟨a9, n9, c9, x9, f9, h9, ho9, hc9, hp9⟩ := H4.out
            have H9 : Hid (Rd wr wc.drew st (.slice a9 n9 c9) f9) := h9.below (Below.refl _ _).drew
            have HG9 : Hid (Good wc.drew w.heap.size ⟨.slice a9 n9 c9, x9, f9⟩) := ⟨ho9.below (Below.refl _ _).drew (Nat.le_refl _), hc9, hp9⟩
            have HEs : Hid (Enters Try.prog 15) := enters_of Try.func15 (by kernel_rfl) rfl
            obtain ⟨bS, hbS⟩ : ∃ bS, allF f9 fb = bS := ⟨_, rfl⟩
            have hsm : decide (x9 = xb) = bS := (same_pts hc9 HGb.out.2.1 hp9 HGb.out.2.2).trans hbS
            have HSx : Hid (∀ W', Rd wr W' st (.slice a9 n9 c9) f9 → ((W'.cell? ⟨wr.heap.size + 1, 0, none⟩ = some (.slice a9 n9 c9) ∧ W'.cell? ⟨gs, ib, none⟩ = some (.slice ab nb cb)) ∧ PtsAt W' (wr.heap.size + 1 + 1) f9) ∧ PtsIn W' gi (ib * 256) fb) := fun W' h => ⟨⟨⟨h.box.1, HSb.out _ h.2.2.2⟩, h.2.2.1⟩, HIb.out _ h.2.2.2⟩
            have HTo : Hid (Calls Try.prog 8 #[.agg #[.slice a9 n9 c9], .agg (ptsV f9)] wc.drew fun e w' => ∃ u, e = .returned u ∧ u = .bool true ∧ Below wc.drew.heap.size wc.drew w') := (told_any HG9.out.1.sv hc9 hp9).mono fun e w' k => ⟨_, k.1, rfl, k.2⟩
            have HSm : Hid (∀ W', Below wc.drew.heap.size wc.drew W' → Calls Try.prog 15 #[.agg #[.slice a9 n9 c9], .agg #[.slice ab nb cb]] W' fun e w' => ∃ u, e = .returned u ∧ u = .bool bS ∧ Below wc.drew.heap.size wc.drew w') := fun W' h => (same_any (HG9.out.1.below h (Nat.le_refl _)).sv (HGb.out.1.below (H9.out.below h).2.2.2 (Nat.le_refl _)).sv).mono fun e w' k => ⟨_, k.1, by rw [hsm], h.trans (k.2.mono h.size)⟩
            clear h9 ho9 hc9 hp9 hsm hcut H4
            go_upto_region 30 with fail
            refine wp_region_held_drew (S := fun w' => ((w'.cell? ⟨wr.heap.size + 1, 0, none⟩ = some (.slice a9 n9 c9) ∧ w'.cell? ⟨gs, ib, none⟩ = some (.slice ab nb cb)) ∧ PtsAt w' (wr.heap.size + 1 + 1) f9) ∧ PtsIn w' gi (ib * 256) fb) (by kernel_rfl) (HSx.out _ H9.out) (fun hHeld => ?_)
            simp only [List.size_toArray, List.length_cons, List.length_nil]
            refine takeH (i := 0) (d := 141) (v := .agg #[.slice a9 n9 c9]) rfl rfl (by kernel_rfl) (by kernel_rfl) (by kernel_rfl) (fun _ _ _ h => h) (Or.inl ⟨by kernel_rfl, by intro w hSw; (try dsimp only at hSw); obtain ⟨⟨⟨hSa, hSb⟩, hSc⟩, hSd⟩ := hSw; go_simp⟩) (by assumption) ?_
            refine takeH (i := 1) (d := 142) (v := .agg (ptsV f9)) rfl rfl (by kernel_rfl) (by kernel_rfl) (by kernel_rfl) (fun _ _ _ h => h) (Or.inl ⟨by kernel_rfl, fun w' hSw => load_exec (x := .tmp 11) rfl (by simp [Act.eval, Act.put]) hSw.1.2⟩) (by assumption) ?_
            refine wpAnyH_ready (rs := [2]) (by kernel_rfl) (by simp) ?_
            refine readyCall (i := 2) (d := 143) rfl rfl (by kernel_rfl) 8 #[.tmp 141, .tmp 142] #[25, 33] rfl HE8.out #[.agg #[.slice a9 n9 c9], .agg (ptsV f9)] (by simp [Act.eval, Act.put]) HTo.out (fun u w' ⟨_, h⟩ => HSx.out _ (H9.out.below h)) ?_ AllReadyH.nil
            rintro u w6 ⟨rfl, hb6⟩ hHeld6
            refine takeH (i := 3) (d := 144) (v := .bool false) rfl rfl (by kernel_rfl) (by kernel_rfl) (by kernel_rfl) (fun _ _ _ h => h) (Or.inl ⟨by kernel_rfl, by intro w hSw; (try dsimp only at hSw); obtain ⟨⟨⟨hSa, hSb⟩, hSc⟩, hSd⟩ := hSw; go_simp⟩) (by assumption) ?_
            refine takeH (i := 4) (d := 145) (v := .bool false) rfl rfl (by kernel_rfl) (by kernel_rfl) (by kernel_rfl) (fun _ _ _ h => h) (Or.inl ⟨by kernel_rfl, by intro w hSw; (try dsimp only at hSw); obtain ⟨⟨⟨hSa, hSb⟩, hSc⟩, hSd⟩ := hSw; go_simp⟩) (by assumption) ?_
            refine takeH (i := 5) (d := 146) (v := .agg #[.slice a9 n9 c9]) rfl rfl (by kernel_rfl) (by kernel_rfl) (by kernel_rfl) (fun _ _ _ h => h) (Or.inl ⟨by kernel_rfl, by intro w hSw; (try dsimp only at hSw); obtain ⟨⟨⟨hSa, hSb⟩, hSc⟩, hSd⟩ := hSw; go_simp⟩) (by assumption) ?_
            refine takeH (i := 6) (d := 147) (v := .slice (some ⟨gs, 0, none⟩) m cs) rfl rfl (by kernel_rfl) (by kernel_rfl) (by kernel_rfl) (fun _ _ _ h => h) (Or.inl ⟨by kernel_rfl, by intro w hSw; (try dsimp only at hSw); obtain ⟨⟨⟨hSa, hSb⟩, hSc⟩, hSd⟩ := hSw; go_simp⟩) (by assumption) ?_
            refine takeH (i := 7) (d := 148) (v := .int .i64 (ib : Int)) rfl rfl (by kernel_rfl) (by kernel_rfl) (by kernel_rfl) (fun _ _ _ h => h) (Or.inl ⟨by kernel_rfl, by intro w hSw; (try dsimp only at hSw); obtain ⟨⟨⟨hSa, hSb⟩, hSc⟩, hSd⟩ := hSw; go_simp⟩) (by assumption) ?_
            refine takeH (i := 8) (d := 149) (v := .pointer (some ⟨gs, ib, none⟩)) rfl rfl (by kernel_rfl) (by kernel_rfl) (by kernel_rfl) (fun _ _ _ h => h) (Or.inl ⟨by kernel_rfl, by intro w hSw; (try dsimp only at hSw); obtain ⟨⟨⟨hSa, hSb⟩, hSc⟩, hSd⟩ := hSw; go_simp⟩) (by assumption) ?_
            refine takeH (i := 9) (d := 150) (v := .agg #[.slice ab nb cb]) rfl rfl (by kernel_rfl) (by kernel_rfl) (by kernel_rfl) (fun _ _ _ h => h) (Or.inl ⟨by kernel_rfl, by intro w hSw; (try dsimp only at hSw); obtain ⟨⟨⟨hSa, hSb⟩, hSc⟩, hSd⟩ := hSw; go_simp⟩) (by assumption) ?_
            refine takeH (i := 11) (d := 152) (v := .agg (ptsV f9)) rfl rfl (by kernel_rfl) (by kernel_rfl) (by kernel_rfl) (fun _ _ _ h => h) (Or.inl ⟨by kernel_rfl, fun w' hSw => load_exec (x := .tmp 11) rfl (by simp [Act.eval, Act.put]) hSw.1.2⟩) (by assumption) ?_
            refine takeH (i := 12) (d := 153) (v := .slice (some ⟨gi, 0, none⟩) m ci) rfl rfl (by kernel_rfl) (by kernel_rfl) (by kernel_rfl) (fun _ _ _ h => h) (Or.inl ⟨by kernel_rfl, by intro w hSw; (try dsimp only at hSw); obtain ⟨⟨⟨hSa, hSb⟩, hSc⟩, hSd⟩ := hSw; go_simp⟩) (by assumption) ?_
            refine takeH (i := 13) (d := 154) (v := .int .i64 (ib : Int)) rfl rfl (by kernel_rfl) (by kernel_rfl) (by kernel_rfl) (fun _ _ _ h => h) (Or.inl ⟨by kernel_rfl, by intro w hSw; (try dsimp only at hSw); obtain ⟨⟨⟨hSa, hSb⟩, hSc⟩, hSd⟩ := hSw; go_simp⟩) (by assumption) ?_
            refine takeH (i := 14) (d := 155) (v := .pointer (some ⟨gi, ib * 256, none⟩)) rfl rfl (by kernel_rfl) (by kernel_rfl) (by kernel_rfl) (fun _ _ _ h => h) (Or.inl ⟨by kernel_rfl, by intro w hSw; (try dsimp only at hSw); obtain ⟨⟨⟨hSa, hSb⟩, hSc⟩, hSd⟩ := hSw; go_simp⟩) (by assumption) ?_
            refine takeH (i := 15) (d := 156) (v := .agg (ptsV fb)) rfl rfl (by kernel_rfl) (by kernel_rfl) (by kernel_rfl) (fun _ _ _ h => h) (Or.inl ⟨by kernel_rfl, fun w' hSw => loadIn_exec (x := .tmp 155) rfl (by simp [Act.eval, Act.put]) hSw.2⟩) (by assumption) ?_
            refine takeH (i := 16) (d := 157) (v := .bool bS) rfl rfl (by kernel_rfl) (by kernel_rfl) (by kernel_rfl) (fun _ _ _ h => h) (Or.inl ⟨by kernel_rfl, fun w' hSw => by rw [← hbS]; exact eqPts_exec (x := .tmp 152) (y := .tmp 156) rfl (by simp [Act.eval, Act.put]) (by simp [Act.eval, Act.put])⟩) (by assumption) ?_
            refine wpAnyH_ready (rs := [10]) (by kernel_rfl) (by simp) ?_
            refine readyCall (i := 10) (d := 151) rfl rfl (by kernel_rfl) 15 #[.tmp 146, .tmp 150] #[25, 25] rfl HEs.out #[.agg #[.slice a9 n9 c9], .agg #[.slice ab nb cb]] (by simp [Act.eval, Act.put]) (HSm.out _ hb6) (fun u w' ⟨_, h⟩ => HSx.out _ (H9.out.below h)) ?_ AllReadyH.nil
            rintro u w7 ⟨rfl, hb7⟩ hHeld7
            refine takeH (i := 17) (d := 158) (v := .bool false) rfl rfl (by kernel_rfl) (by kernel_rfl) (by kernel_rfl) (fun _ _ _ h => h) (Or.inl ⟨by kernel_rfl, by intro w hSw; (try dsimp only at hSw); obtain ⟨⟨⟨hSa, hSb⟩, hSc⟩, hSd⟩ := hSw; go_simp⟩) (by assumption) ?_
            refine takeH (i := 18) (d := 159) (v := .bool false) rfl rfl (by kernel_rfl) (by kernel_rfl) (by kernel_rfl) (fun _ _ _ h => h) (Or.inl ⟨by kernel_rfl, by intro w hSw; (try dsimp only at hSw); obtain ⟨⟨⟨hSa, hSb⟩, hSc⟩, hSd⟩ := hSw; go_simp⟩) (by assumption) ?_
            have H7 : Hid (Rd wr w7 st (.slice a9 n9 c9) f9) := H9.out.below hb7
            have HG7 : Hid (Good w7 w.heap.size ⟨.slice a9 n9 c9, x9, f9⟩) := HG9.out.below hb7
            have HP7 : Hid (PS w w7 (.slice (some ⟨gs, 0, none⟩) m cs) (.slice (some ⟨gi, 0, none⟩) m ci) L) := by
              have := HP.out.below H7.out.2.2.2
              rw [HLl.out, HM.out] at this
              exact this
            have hbx := H7.out.box.1
            refine wpAnyH_done (by kernel_rfl) ?_ _
            simp only [Act.put, List.setIfInBounds_toArray, List.set_cons_succ, List.set_cons_zero]
            clear hHeld hHeld6 hHeld7 hb6 hb7 HTo HSm HSx hbS HFd HSb HIb HGa HGb
            obtain ⟨W11, hW11⟩ : ∃ W11, w7.alloc (Obj.cells #[Value.slice a9 n9 c9] 25) = W11 := ⟨_, rfl⟩
            have HB11 : Hid (Below w7.heap.size w7 W11) := hW11 ▸ (Below.refl _ _).alloc (Nat.le_refl _) _
            have HP11 : Hid (PS w W11 (.slice (some ⟨gs, 0, none⟩) m cs) (.slice (some ⟨gi, 0, none⟩) m ci) L) := HP7.out.below HB11.out
            have HG11 : Hid (Good W11 w.heap.size ⟨.slice a9 n9 c9, x9, f9⟩) := HG7.out.below HB11.out
            have HC11 : Hid (W11.cell? ⟨w7.heap.size, 0, none⟩ = some (.slice a9 n9 c9)) := hW11 ▸ cell_at (heap_alloc_new w7 _)
            have HT11 : Hid (PtsAt W11 (wr.heap.size + 1 + 1) f9) := H7.out.2.2.1.below HB11.out H7.out.2.2.1.lt
            have HGs : Hid (gs < wr.heap.size) := hgs0
            have HL60 : Hid (L.length ≤ 100) := show L.length ≤ 100 by have := HLl.out; omega
            go_upto_region 33 with (first | (refine wpList_buildS (v := .slice a9 n9 c9) (by rfl) (.tmp 161) (by rfl) (by rfl) ?_; rw [hW11]) | (refine wpList_appS (L := L) (e := ⟨.slice a9 n9 c9, x9, f9⟩) (base := w.heap.size) (v := .slice (some ⟨gs, 0, none⟩) m cs) (g := w7.heap.size) (cap := 1) (by rfl) (.tmp 160) (.tmp 162) (by rfl) (by rfl) (by rfl) (by exact HP11.out.1) (by exact HC11.out) rfl (by exact HL60.out) (by exact HP11.out.2.2.2.size) ?_; intro v12 w12 hR12 hgr12; have HR12 : Hid (RowS w12 w.heap.size v12 (L ++ [⟨.slice a9 n9 c9, x9, f9⟩])) := hR12; have HS12 := HP11.out.pushS HG11.out hgr12; have HI12 : Hid (RowI w12 w.heap.size (.slice (some ⟨gi, 0, none⟩) m ci) L) := HS12.1; have HA12 : Hid (∀ x ∈ L ++ [⟨.slice a9 n9 c9, x9, f9⟩], Good w12 w.heap.size x) := HS12.2.1; have HB12 : Hid (Below w.heap.size w w12) := HS12.2.2; have HT12 : Hid (PtsAt w12 (wr.heap.size + 1 + 1) f9) := (grown_block hgr12 HT11.out.lt (by intro k; have k1 : gs = wr.heap.size + 1 + 1 := Option.some.inj k; have := HGs.out; omega)).trans HT11.out; clear hR12 hgr12 HS12))
            clear hW11 hbx
            obtain ⟨W13, hW13⟩ : ∃ W13, w12.alloc (Obj.cells (ptsV f9) 33) = W13 := ⟨_, rfl⟩
            have HB13 : Hid (Below w12.heap.size w12 W13) := hW13 ▸ (Below.refl _ _).alloc (Nat.le_refl _) _
            have HR13 : Hid (RowS W13 w.heap.size v12 (L ++ [⟨.slice a9 n9 c9, x9, f9⟩])) := owns_below HR12.out HB13.out
            have HI13 : Hid (RowI W13 w.heap.size (.slice (some ⟨gi, 0, none⟩) m ci) L) := owns_below HI12.out HB13.out
            have HA13 : Hid (∀ x ∈ L ++ [⟨.slice a9 n9 c9, x9, f9⟩], Good W13 w.heap.size x) := fun x hx => (HA12.out x hx).below HB13.out
            have HW13 : Hid (Below w.heap.size w W13) := HB12.out.trans (HB13.out.mono HB12.out.size)
            have HT13 : Hid (PtsAt W13 w12.heap.size f9) := hW13 ▸ PtsAt.new w12 f9
            go_wp2_with (first | (refine wpList_load_pts (b := wr.heap.size + 1 + 1) (f := f9) (by rfl) (.tmp 11) (by rfl) (by rfl) (by exact HT12.out) ?_) | (refine wpList_buildI (f := f9) (by rfl) (.tmp 165) (by rfl) (by rfl) ?_; rw [hW13]) | (refine wpList_appI (L := L) (e := ⟨.slice a9 n9 c9, x9, f9⟩) (base := w.heap.size) (v := .slice (some ⟨gi, 0, none⟩) m ci) (g := w12.heap.size) (cap := 1) (by rfl) (.tmp 164) (.tmp 166) (by rfl) (by rfl) (by rfl) (by exact HI13.out) (by exact HT13.out) (by exact HL60.out) (by exact HW13.out.size) ?_; intro v14 w14 hR14 hgr14; have HP14 : Hid (PS w w14 v12 v14 (L ++ [⟨.slice a9 n9 c9, x9, f9⟩])) := PS.pushI HR13.out HI13.out HA13.out HW13.out hR14 hgr14; clear hR14 hgr14))
            go_roundw
            case rel => exact ⟨k + 1, L ++ [(⟨.slice a9 n9 c9, x9, f9⟩ : Ent)], by have := HK60.out; omega, by rw [List.length_append, HLl.out]; rfl, by go_num, HP14.out⟩
            case measure => simp [intOf]; omega
        · by_cases h1 : k < n
          · have d1 : decide ((k : Int) < (n : Int)) = true := decide_eq_true (by omega)
            have d2 : decide ((k : Int) < 60) = false := decide_eq_false (by omega)
            clear hin hm hL
            go_wp2_with fail
            go_ret
            exact ⟨rfl, HP.out.2.2.2⟩
          · have d1 : decide ((k : Int) < (n : Int)) = false := decide_eq_false (by omega)
            clear hin hm hL
            go_wp2_with fail
            go_ret
            exact ⟨rfl, HP.out.2.2.2⟩

end Go.Proofs.Ytogcpogoamoljaa
