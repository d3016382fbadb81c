import Derived.Test.YtddgoncbdlhhhaaGreatR25
/- The document's own lay of one value, of however many bytes. Own work. -/
namespace Go.Proofs.YtddgoncbdlhhhaaGreat
open Go.RowKit Go.Maps Go.Proofs.YtddgoncbdlhhhaaGreat.Sp Wk
/-- what lay keeps: s bytes are laid -/
def LayV (vp0 : Value) (ps0 : List (Int × Nat)) (w0 w : World) (base v : Nat) (vr vd : Value) (L S X : Nat) (xs : List Nat) (M : Nat → Nat) (a s : Nat) (vp : Value) (ps : List (Int × Nat)) (NN : List Int) : Prop := RM w base v vr vd vp ps (putAt M a (xs.take s)) L S X ∧ True ∧ Kf v vp0 ps0 w0 vp ps w ∧ True ∧ base ≤ w.heap.size ∧ ps.map Prod.fst = NN
theorem LayV.write {vp0 : Value} {ps0 : List (Int × Nat)} {NN : List Int} {w0 w : World} {base v : Nat} {vr vd vp : Value} {L S X a s : Nat} {xs : List Nat} {M : Nat → Nat} {ps : List (Int × Nat)} (h : LayV vp0 ps0 w0 w base v vr vd L S X xs M a s vp ps NN) {x : Int × Nat} (hx : x ∈ ps) {t : Nat} (ht : t < 4096) (hs : s < xs.length) (hz : ∀ z ∈ xs, z < 256) (he : x.1.toNat * 4096 + t = a + s) : LayV vp0 ps0 w0 (w.setCell ⟨x.2, t, none⟩ (.int .u8 ((xs.getD s 0 : Nat) : Int))) base v vr vd L S X xs M a (s + 1) vp ps NN := by
  have hzs : xs.getD s 0 < 256 := by
    rw [List.getD_eq_getElem?_getD, List.getElem?_eq_getElem hs]
    exact hz _ (List.getElem_mem hs)
  have h1 := h.1.write hx ht hzs
  rw [he, putAt_step M a xs s hs] at h1
  refine ⟨h1, trivial, h.2.2.1.trans (Kf.of (Keeps.setCell w x.2 t _) (fun k _ e => .inr (.inr ⟨x, hx, (show k = x.2 from e).symm⟩))), h.2.2.2.1, Nat.le_trans h.2.2.2.2.1 (Keeps.setCell w x.2 t (.int .u8 ((xs.getD s 0 : Nat) : Int))).size, h.2.2.2.2.2⟩
set_option maxRecDepth 100000 in
set_option maxHeartbeats 2000000 in
theorem rlay_v {w : World} {base v : Nat} {vr vd vp : Value} {ps : List (Int × Nat)} {M : Nat → Nat} {L S X a n val : Nat} (h : RM w base v vr vd vp ps M L S X) (hb : base ≤ w.heap.size) (hval : 0 < val ∧ val < 256) (hn : n ≤ 1099511627776) (ha : 0 < n → a + n ≤ 4294967400) :
    Calls Tryz.prog 54 #[.pointer (some ⟨v, 0, none⟩), .int .u64 (a : Int), .slice none 0 0, .int .i64 (n : Int), .int .u8 (val : Int)] w fun e w' => e = .returned (.tuple #[]) ∧ ∃ vp' ps', RM w' base v vr vd vp' ps' (putAt M a (List.replicate n val)) L S X ∧ Kf v vp ps w vp' ps' w' ∧ ps'.map Prod.fst = addN (ps.map Prod.fst) a n := by
  obtain ⟨xs, hxe⟩ : ∃ xs, xs = List.replicate n val := ⟨_, rfl⟩
  rw [← hxe]
  have hxl : xs.length = n := by rw [hxe]; simp
  have hxs : ∀ z ∈ xs, z < 256 := fun z hz => by rw [hxe] at hz; rw [List.eq_of_mem_replicate hz]; exact hval.2
  have HGt : Hid (∀ s, s < n → xs.getD s 0 = val) := fun s hs => by
    show _ = _
    rw [hxe, List.getD_eq_getElem?_getD, List.getElem?_replicate, if_pos hs]
    rfl
  have hv0 : ((val : Int) != 0) = true := by have := hval.1; simp; omega
  have hv1 : ((val : Int) == 0) = false := by have := hval.1; simp; omega
  clear hxe
  obtain ⟨NS, hNS⟩ : ∃ NS, ps.map Prod.fst = NS := ⟨_, rfl⟩
  rw [hNS]
  have HI0 : Hid (∃ vp' ps', LayV vp ps w w base v vr vd L S X xs M a 0 vp' ps' (addN NS a 0)) := ⟨vp, ps, by rw [List.take_zero, putAt_nil]; exact h, trivial, Kf.refl _ _ _ _, trivial, hb, hNS⟩
  have HXl := Lib.hid hxl
  have HXs := Lib.hid hxs
  clear h hb hxl hxs hNS
  have hmk : ∀ W : World, (Instr.makeSlice 27 (.int .i64 4096) (.int .i64 4096)).run Tryz.prog W = .ok (.slice (some ⟨W.heap.size, 0, none⟩) 4096 4096) (W.alloc (.cells zc 5)) := make_page
  go_enter Tryz.func54, Tryz.ntmps54
  go_wp2_with fail
  go_loopw [10] (fun iv wr => ∃ i : Nat, i ≤ n ∧ iv = .int .i64 (i : Int) ∧ Hid (∃ vp' ps', LayV vp ps w wr base v vr vd L S X xs M a i vp' ps' (addN NS a i))) (fun iv _ => n - (intOf iv).toNat)
  case atStart => exact ⟨0, Nat.zero_le _, rfl, HI0⟩
  case round =>
    obtain ⟨i, hi, rfl, HI⟩ := hrel
    by_cases hlt : i < n
    · obtain ⟨vp1, ps1, HI1⟩ := HI.out
      have HL := Lib.hid HI1
      clear HI1 HI HI0
      have qi : (i : Int) < (n : Int) := by omega
      have hai : (a : Int) + (i : Int) ≤ 18446744073709551615 := by omega
      obtain ⟨fr, hfr, hfr2⟩ : ∃ fr : Nat, ((a : Int) + (i : Int)) % 4096 = (fr : Int) ∧ fr < 4096 := ⟨(a + i) % 4096, by omega, by omega⟩
      have HSm : Hid (∀ k, 1 ≤ k → k + fr ≤ 4096 → addN NS a (i + k) = addN NS a (i + 1)) := fun k h1 h2 => by
        obtain ⟨k', rfl⟩ : ∃ k', k = k' + 1 := ⟨k - 1, by omega⟩
        exact addN_same NS a i k' (by omega)
      obtain ⟨pg, hpg⟩ : ∃ pg : Nat, ((a : Int) + (i : Int)) / 4096 = (pg : Int) := ⟨(a + i) / 4096, by omega⟩
      have HSt : Hid (addN NS a (i + 1) = addP (addN NS a i) (pg : Int)) := by
        show addP _ _ = _
        rw [← hpg, Int.natCast_ediv, Int.natCast_add]
        rfl
      have hw1 : IntKind.u64.wrap ((a : Int) + (i : Int)) = (a : Int) + (i : Int) := by rw [IntKind.wrap_u64]; omega
      have HF : Hid (Calls Tryz.prog 87 #[.pointer (some ⟨v, 0, none⟩), .int .u64 (pg : Int)] wr fun e w' => ∃ j : Int, e = .returned (.int .i64 j) ∧ Hid ((j = -1 ∧ ∀ x ∈ ps1, x.1 ≠ (pg : Int)) ∨ ∃ i : Nat, j = (i : Int) ∧ ∃ hi : i < ps1.length, (ps1[i]'hi).1 = (pg : Int)) ∧ wr = w') := rfind_at HL.out.1.rs (by have := HL.out.1.pn.len; omega)
      obtain ⟨k, hk1, hk2, hk3, hkk⟩ : ∃ k : Nat, 1 ≤ k ∧ k ≤ n - i ∧ k + fr ≤ 4096 ∧ Hid ((decide ((k : Int) < 4096 - (fr : Int)) = true ∧ (n : Int) - (i : Int) = (k : Int)) ∨ (decide ((n : Int) - (i : Int) < (k : Int)) = false ∧ (4096 : Int) - (fr : Int) = (k : Int))) := by
        by_cases hc : n - i < 4096 - fr
        · exact ⟨n - i, by omega, by omega, by omega, .inl ⟨by simp; omega, by omega⟩⟩
        · exact ⟨4096 - fr, by omega, by omega, by omega, .inr ⟨by simp; omega, by omega⟩⟩
      go_upto_if 31 with fail
      go_cut [12] (fun s wx => s = .int .i64 (k : Int) ∧ wx = wr)
      case first =>
        rcases hkk.out with ⟨hci, hk⟩ | ⟨hci, hk⟩
        · have hcp : (n : Int) - (i : Int) < 4096 - (fr : Int) := by rw [hk]; exact of_decide_eq_true hci
          clear hci
          rw [hk] at hcp
          go_wp2_with fail
          go_meet
          exact ⟨rfl, rfl⟩
        · have hcp : ¬ (n : Int) - (i : Int) < (k : Int) := of_decide_eq_false hci
          clear hci
          go_wp2_with fail
          go_meet
          exact ⟨rfl, rfl⟩
      case rest =>
        obtain ⟨rfl, rfl⟩ := hcut
        clear hkk
        go_wp2_with fail
        refine HF.out.mono ?_
        rintro e w1 ⟨j, rfl, hj, rfl⟩
        clear HF
        go_upto_region 7 with fail
        go_cut [51] (fun s wx => s = .bool (decide (j < 0)) ∧ wx = wc)
        case first =>
          rcases hj.out with ⟨rfl, hjx⟩ | ⟨j0, rfl, hj0, hj1⟩
          · go_wp2_with fail
            go_meet
            exact ⟨rfl, rfl⟩
          · have hjn : decide ((j0 : Int) < 0) = false := by simp
            go_wp2_with fail
            go_meet
            exact ⟨by go_num, rfl⟩
        case rest =>
          obtain ⟨rfl, hwc⟩ := hcut
          subst hwc
          go_upto_if 51 with fail
          go_cut [13] (fun s wx => ∃ (jj : Nat) (vp2 : Value) (ps2 : List (Int × Nat)), s = .int .i64 (jj : Int) ∧ Hid (∃ hi : jj < ps2.length, (ps2[jj]'hi).1 = (pg : Int)) ∧ Hid (LayV vp ps w wx base v vr vd L S X xs M a i vp2 ps2 (addN NS a (i + 1))))
          case first =>
            rcases hj.out with ⟨rfl, hjx⟩ | ⟨j0, rfl, hj0, hj1⟩
            · clear hj
              have HJX := Lib.hid hjx
              clear hjx
              obtain ⟨c0, c1, c2, _⟩ := HL.out.1.2.1.cells
              have hvl := HL.out.1.2.1.lt
              have hv1 : v ≠ wc.heap.size := by omega
              have hv2 : v ≠ wc.heap.size + 1 := by omega
              obtain ⟨a1, cc, hvp, hc1, hc2, _⟩ := HL.out.1.2.2.1.form
              unfold maxLen at hc2
              obtain ⟨n1, hn1⟩ : ∃ n1, n1 = ps1.length := ⟨_, rfl⟩
              have HN1 : Hid (n1 = ps1.length) := hn1
              rw [← hn1] at hvp hc1
              have hn1l : n1 ≤ 2097153 := by rw [HN1.out]; exact HL.out.1.pn.len
              subst hvp
              clear hn1
              have HO : Hid (OwnP (W2 wc (pg : Int)) base (.slice a1 n1 cc) ps1) := HL.out.1.2.2.1.keeps (W2.keeps wc (pg : Int)) (fun _ _ e => e)
              have HC : Hid ((W2 wc (pg : Int)).cell? ⟨wc.heap.size + 1, 0, none⟩ = some (.int .u64 (pg : Int)) ∧ (W2 wc (pg : Int)).cell? ⟨wc.heap.size + 1, 1, none⟩ = some (.slice (some ⟨wc.heap.size, 0, none⟩) 4096 4096)) := W2.cells wc (pg : Int)
              have HA : Hid (∀ v2 w2, OwnP w2 base v2 (ps1 ++ [((pg : Int), wc.heap.size)]) → (W2 wc (pg : Int)).grownBy w2 (Value.slice a1 n1 cc).ownBlock → (v2.ownBlock = (Value.slice a1 n1 cc).ownBlock ∨ v2.ownBlock = some (W2 wc (pg : Int)).heap.size) → LayV vp ps w (w2.setCell ⟨v, 2, none⟩ v2) base v vr vd L S X xs M a i v2 (ps1 ++ [((pg : Int), wc.heap.size)]) (addN NS a (i + 1)) ∧ w2.cell? ⟨v, 2, none⟩ = some (.slice a1 n1 cc) ∧ w2.frozen? ⟨v, 2, none⟩ = false) := fun v2 w2 ho hg hfr => by
                obtain ⟨r1, _, _, r4, r5, r6⟩ := HL.out.1.app HL.out.2.2.2.2.1 pg (by omega) HJX.out ho hg
                refine ⟨⟨r1, trivial, HL.out.2.2.1.trans (kf_app hg hfr), trivial, r6, ?_⟩, r4, r5⟩
                · rw [HSt.out, addP_new (fun hm => ?_), List.map_append, HL.out.2.2.2.2.2]
                  · rfl
                  · rw [← HL.out.2.2.2.2.2] at hm
                    obtain ⟨x, hx, e⟩ := List.mem_map.1 hm
                    exact HJX.out x hx e
              have HBs : Hid (base ≤ (W2 wc (pg : Int)).heap.size) := Nat.le_trans HL.out.2.2.2.2.1 (W2.keeps wc (pg : Int)).size
              have hw0 : IntKind.u64.wrap (i : Int) = (i : Int) := by rw [IntKind.wrap_u64]; omega
              have hw2 : IntKind.u64.wrap (((a : Int) + (i : Int)).tdiv 4096) = (pg : Int) := by rw [Int.tdiv_eq_ediv_of_nonneg (by omega), hpg, IntKind.wrap_u64]; omega
              have HLn : Hid (ps1.length ≤ 1099511627776) := by show _ ≤ _; rw [← HN1.out]; omega
              go_wp2_with fail
              go_region_law (refine step_appPF (base := base) (v := .slice a1 n1 cc) (ps := ps1) (x := ((pg : Int), wc.heap.size)) (by kernel_rfl) (.tmp 61) (.tmp 69) (by rfl) (by rfl) (by exact HO.out) (by rfl) (by exact HC.out.1) (by exact HC.out.2) HLn.out (by exact HBs.out) ?_; intro va vn vc w2 ho hg hfr; obtain ⟨hl2, hc2, hf2⟩ := HA.out _ w2 ho hg hfr; have HL2 := Lib.hid hl2; clear hl2 ho hg hfr)
              all_goals
                go_wp2_with fail
                go_meet
                exact ⟨n1, _, _, rfl, ⟨by rw [HN1.out, List.length_append]; exact Nat.lt_succ_self _, by simp [HN1.out]⟩, HL2⟩
            · clear hj
              have HJ : Hid (∃ hi : j0 < ps1.length, (ps1[j0]'hi).1 = (pg : Int)) := ⟨hj0, hj1⟩
              clear hj0 hj1
              have HL2 : Hid (LayV vp ps w wc base v vr vd L S X xs M a i vp1 ps1 (addN NS a (i + 1))) := by
                refine ⟨HL.out.1, HL.out.2.1, HL.out.2.2.1, HL.out.2.2.2.1, HL.out.2.2.2.2.1, ?_⟩
                rw [HSt.out, addP_in, HL.out.2.2.2.2.2]
                rw [← HL.out.2.2.2.2.2, ← HJ.out.2]
                exact List.mem_map_of_mem (List.getElem_mem HJ.out.1)
              go_wp2_with fail
              go_meet
              exact ⟨j0, _, _, rfl, HJ, HL2⟩
          case rest =>
            obtain ⟨jj, vp2, ps2, rfl, HJ, HL2⟩ := hcut
            clear hj HL
            have jj0 : (0 : Int) ≤ (jj : Int) := Int.natCast_nonneg _
            go_wp2_with fail
            go_loopw [14] (fun qv wq => ∃ q : Nat, q ≤ k ∧ qv = .int .i64 (q : Int) ∧ Hid (LayV vp ps w wq base v vr vd L S X xs M a (i + q) vp2 ps2 (addN NS a (i + 1)))) (fun qv _ => k - (intOf qv).toNat)
            case atStart => exact ⟨0, Nat.zero_le _, rfl, HL2⟩
            case round =>
              obtain ⟨q, hq, rfl, HQ⟩ := hrel
              by_cases hqk : q < k
              · have qki : (q : Int) < (k : Int) := by omega
                obtain ⟨c0, c1, c2, _⟩ := HQ.out.1.2.1.cells
                obtain ⟨a1, cc, hvp, hc1, hc2, _⟩ := HQ.out.1.2.2.1.form
                unfold maxLen at hc2
                obtain ⟨n1, hn1⟩ : ∃ n1, n1 = ps2.length := ⟨_, rfl⟩
                have HN1 : Hid (n1 = ps2.length) := hn1
                rw [← hn1] at hvp hc1
                have hjn : jj < n1 := by rw [HN1.out]; exact HJ.out.1
                subst hvp
                clear hn1
                obtain ⟨g, rfl, d0, cq, d1⟩ := HQ.out.1.2.2.1.cell jj HJ.out.1
                obtain ⟨X0, hX0⟩ : ∃ X0, X0 = ps2[jj]'HJ.out.1 := ⟨_, rfl⟩
                rw [← hX0] at d0 d1
                have HXM : Hid (X0 ∈ ps2) := hX0 ▸ List.getElem_mem HJ.out.1
                have HX1 : Hid (X0.1 = (pg : Int)) := hX0 ▸ HJ.out.2
                clear hX0
                obtain ⟨_, hxu⟩ := HQ.out.1.2.2.2.1 X0 HXM.out
                have HXU := Lib.hid hxu
                obtain ⟨x, hx⟩ : ∃ x, x = X0.2 := ⟨_, rfl⟩
                have HX2 : Hid (x = X0.2) := hx
                rw [← hx] at d1 HXU
                clear hx hxu
                obtain ⟨s, hs, hs2⟩ : ∃ s : Nat, (i : Int) + (q : Int) = (s : Int) ∧ s < n := ⟨i + q, by omega, by omega⟩
                obtain ⟨t, ht, ht2⟩ : ∃ t : Nat, (fr : Int) + (q : Int) = (t : Int) ∧ t < 4096 := ⟨fr + q, by omega, by omega⟩
                obtain ⟨y, hcy⟩ : ∃ y : Nat, wr.cell? ⟨x, t, none⟩ = some (.int .u8 (y : Int)) := ⟨_, HXU.out.cell t ht2⟩
                have hfz := HXU.out.thawed t
                have HW : Hid (LayV vp ps w (wr.setCell ⟨x, t, none⟩ (.int .u8 ((xs.getD s 0 : Nat) : Int))) base v vr vd L S X xs M a (i + (q + 1)) (.slice (some ⟨g, 0, none⟩) n1 cc) ps2 (addN NS a (i + 1))) := by
                  rw [HX2.out, show i + (q + 1) = s + 1 by omega]
                  exact LayV.write (by rw [show s = i + q by omega]; exact HQ.out) HXM.out ht2 (by rw [HXl.out]; exact hs2) HXs.out (by rw [HX1.out]; omega)
                rw [HGt.out s hs2] at HW
                go_wp2_with fail
                exact ⟨⟨q + 1, by omega, by go_num, HW⟩, by simp [intOf]; omega⟩
              · go_wp2_with fail
                refine ⟨⟨i + k, by omega, by go_num, ?_⟩, by simp [intOf]; omega⟩
                obtain rfl : q = k := by omega
                exact ⟨_, _, by rw [HSm.out _ hk1 hk3]; exact HQ.out⟩
    · obtain rfl : i = n := by omega
      go_wp2_with fail
      go_end0
      obtain ⟨vp1, ps1, h1⟩ := HI.out
      have h2 := h1.1
      rw [List.take_of_length_le (by rw [HXl.out]; exact Nat.le_refl _)] at h2
      exact ⟨rfl, vp1, ps1, h2, h1.2.2.1, h1.2.2.2.2.2⟩
end Go.Proofs.YtddgoncbdlhhhaaGreat
/- The document's own lay of zeros: no page is made. Own work. -/
namespace Go.Proofs.YtddgoncbdlhhhaaGreat
open Go.RowKit Go.Maps Go.Proofs.YtddgoncbdlhhhaaGreat.Sp Wk
/-- zeros over zeros -/
theorem put_zeros (M : Nat → Nat) (a i k : Nat) (h : ∀ q, q < k → putAt M a (List.replicate i 0) (a + i + q) = 0) : putAt M a (List.replicate (i + k) 0) = putAt M a (List.replicate i 0) := by
  funext p
  by_cases h1 : a ≤ p ∧ p < a + i
  · obtain ⟨d, rfl⟩ : ∃ d, p = a + d := ⟨p - a, by omega⟩
    rw [putAt_in M a (List.replicate (i + k) 0) d (by simp; omega), putAt_in M a (List.replicate i 0) d (by simp; omega)]
    rw [List.getD_eq_getElem?_getD, List.getD_eq_getElem?_getD, List.getElem?_replicate, List.getElem?_replicate, if_pos (by omega), if_pos (by omega)]
  · by_cases h2 : a + i ≤ p ∧ p < a + i + k
    · obtain ⟨d, rfl⟩ : ∃ d, p = a + i + d := ⟨p - a - i, by omega⟩
      rw [h d (by omega), Nat.add_assoc, putAt_in M a (List.replicate (i + k) 0) (i + d) (by simp; omega)]
      rw [List.getD_eq_getElem?_getD, List.getElem?_replicate, if_pos (by omega)]
      rfl
    · rw [putAt_out M a (List.replicate (i + k) 0) p (by simp; omega), putAt_out M a (List.replicate i 0) p (by simp; omega)]
set_option maxRecDepth 100000 in
set_option maxHeartbeats 2000000 in
theorem rlay_z {w : World} {base v : Nat} {vr vd vp : Value} {ps : List (Int × Nat)} {M : Nat → Nat} {L S X a n : Nat} (h : RM w base v vr vd vp ps M L S X) (hn : n ≤ 1099511627776) (ha : 0 < n → a + n ≤ 4294967400) :
    Calls Tryz.prog 54 #[.pointer (some ⟨v, 0, none⟩), .int .u64 (a : Int), .slice none 0 0, .int .i64 (n : Int), .int .u8 0] w fun e w' => e = .returned (.tuple #[]) ∧ RM w' base v vr vd vp ps (putAt M a (List.replicate n 0)) L S X ∧ Kf v vp ps w vp ps w' := by
  obtain ⟨xs, hxe⟩ : ∃ xs, xs = List.replicate n 0 := ⟨_, rfl⟩
  rw [← hxe]
  have hxl : xs.length = n := by rw [hxe]; simp
  have hxs : ∀ z ∈ xs, z < 256 := fun z hz => by rw [hxe] at hz; rw [List.eq_of_mem_replicate hz]; decide
  have HGt : Hid (∀ s, s < n → xs.getD s 0 = 0) := fun s hs => by
    show _ = _
    rw [hxe, List.getD_eq_getElem?_getD, List.getElem?_replicate, if_pos hs]
    rfl
  have HPz : Hid (∀ i k, i + k ≤ n → (∀ q, q < k → putAt M a (xs.take i) (a + i + q) = 0) → putAt M a (xs.take (i + k)) = putAt M a (xs.take i)) := fun i k hik hq => by
    rw [hxe, List.take_replicate, List.take_replicate, Nat.min_eq_left hik, Nat.min_eq_left (by omega)]
    rw [hxe, List.take_replicate, Nat.min_eq_left (by omega)] at hq
    exact put_zeros M a i k hq
  clear hxe
  have HI0 : Hid (RM w base v vr vd vp ps (putAt M a (xs.take 0)) L S X ∧ Kf v vp ps w vp ps w) := ⟨by rw [List.take_zero, putAt_nil]; exact h, Kf.refl _ _ _ _⟩
  have HXl := Lib.hid hxl
  have HXs := Lib.hid hxs
  clear h hxl hxs
  go_enter Tryz.func54, Tryz.ntmps54
  go_wp2_with fail
  go_loopw [10] (fun iv wr => ∃ i : Nat, i ≤ n ∧ iv = .int .i64 (i : Int) ∧ Hid (RM wr base v vr vd vp ps (putAt M a (xs.take i)) L S X ∧ Kf v vp ps w vp ps wr)) (fun iv _ => n - (intOf iv).toNat)
  case atStart => exact ⟨0, Nat.zero_le _, rfl, HI0⟩
  case round =>
    obtain ⟨i, hi, rfl, HI⟩ := hrel
    by_cases hlt : i < n
    · have HL := HI
      clear HI HI0
      have qi : (i : Int) < (n : Int) := by omega
      have hai : (a : Int) + (i : Int) ≤ 18446744073709551615 := by omega
      obtain ⟨fr, hfr, hfr2⟩ : ∃ fr : Nat, ((a : Int) + (i : Int)) % 4096 = (fr : Int) ∧ fr < 4096 := ⟨(a + i) % 4096, by omega, by omega⟩
      obtain ⟨pg, hpg⟩ : ∃ pg : Nat, ((a : Int) + (i : Int)) / 4096 = (pg : Int) := ⟨(a + i) / 4096, by omega⟩
      have hw1 : IntKind.u64.wrap ((a : Int) + (i : Int)) = (a : Int) + (i : Int) := by rw [IntKind.wrap_u64]; omega
      have HF : Hid (Calls Tryz.prog 87 #[.pointer (some ⟨v, 0, none⟩), .int .u64 (pg : Int)] wr fun e w' => ∃ j : Int, e = .returned (.int .i64 j) ∧ Hid ((j = -1 ∧ ∀ x ∈ ps, x.1 ≠ (pg : Int)) ∨ ∃ i : Nat, j = (i : Int) ∧ ∃ hi : i < ps.length, (ps[i]'hi).1 = (pg : Int)) ∧ wr = w') := rfind_at HL.out.1.rs (by have := HL.out.1.pn.len; omega)
      obtain ⟨k, hk1, hk2, hk3, hkk⟩ : ∃ k : Nat, 1 ≤ k ∧ k ≤ n - i ∧ k + fr ≤ 4096 ∧ Hid ((decide ((k : Int) < 4096 - (fr : Int)) = true ∧ (n : Int) - (i : Int) = (k : Int)) ∨ (decide ((n : Int) - (i : Int) < (k : Int)) = false ∧ (4096 : Int) - (fr : Int) = (k : Int))) := by
        by_cases hc : n - i < 4096 - fr
        · exact ⟨n - i, by omega, by omega, by omega, .inl ⟨by simp; omega, by omega⟩⟩
        · exact ⟨4096 - fr, by omega, by omega, by omega, .inr ⟨by simp; omega, by omega⟩⟩
      go_upto_if 31 with fail
      go_cut [12] (fun s wx => s = .int .i64 (k : Int) ∧ wx = wr)
      case first =>
        rcases hkk.out with ⟨hci, hk⟩ | ⟨hci, hk⟩
        · have hcp : (n : Int) - (i : Int) < 4096 - (fr : Int) := by rw [hk]; exact of_decide_eq_true hci
          clear hci
          rw [hk] at hcp
          go_wp2_with fail
          go_meet
          exact ⟨rfl, rfl⟩
        · have hcp : ¬ (n : Int) - (i : Int) < (k : Int) := of_decide_eq_false hci
          clear hci
          go_wp2_with fail
          go_meet
          exact ⟨rfl, rfl⟩
      case rest =>
        obtain ⟨rfl, rfl⟩ := hcut
        clear hkk
        go_wp2_with fail
        refine HF.out.mono ?_
        rintro e w1 ⟨j, rfl, hj, rfl⟩
        clear HF
        rcases hj.out with ⟨rfl, hjx⟩ | ⟨jj, rfl, hjj, hjp⟩
        · clear hj
          have HZ : Hid (RM wc base v vr vd vp ps (putAt M a (xs.take (i + k))) L S X ∧ Kf v vp ps w vp ps wc) := by
            refine ⟨?_, HL.out.2⟩
            rw [HPz.out i k (by omega) (fun q hq => ?_)]
            · exact HL.out.1
            · refine HL.out.1.2.2.2.2.2.2.2 _ (fun x hx e => hjx x hx ?_)
              rw [e]
              omega
          clear hjx HL
          go_wp2_with fail
          refine wp_loop_rounds 1 ?_
          rw [rounds_succ]
          go_wp2_with fail
          exact ⟨⟨i + k, by omega, by go_num, HZ⟩, by simp [intOf]; omega⟩
        · clear hj
          have HJ : Hid (∃ hi : jj < ps.length, (ps[jj]'hi).1 = (pg : Int)) := ⟨hjj, hjp⟩
          clear hjj hjp
          have jj0 : (0 : Int) ≤ (jj : Int) := Int.natCast_nonneg _
          have hjn : decide ((jj : Int) < 0) = false := by simp
          go_wp2_with fail
          go_loopw [14] (fun qv wq => ∃ q : Nat, q ≤ k ∧ qv = .int .i64 (q : Int) ∧ Hid (RM wq base v vr vd vp ps (putAt M a (xs.take (i + q))) L S X ∧ Kf v vp ps w vp ps wq)) (fun qv _ => k - (intOf qv).toNat)
          case atStart => exact ⟨0, Nat.zero_le _, rfl, HL⟩
          case round =>
            clear HL
            obtain ⟨q, hq, rfl, HQ⟩ := hrel
            by_cases hqk : q < k
            · have qki : (q : Int) < (k : Int) := by omega
              obtain ⟨c0, c1, c2, _⟩ := HQ.out.1.2.1.cells
              obtain ⟨a1, cc, hvp, hc1, hc2, _⟩ := HQ.out.1.2.2.1.form
              unfold maxLen at hc2
              obtain ⟨n1, hn1⟩ : ∃ n1, n1 = ps.length := ⟨_, rfl⟩
              have HN1 : Hid (n1 = ps.length) := hn1
              rw [← hn1] at hvp hc1
              have hjl : jj < n1 := by rw [HN1.out]; exact HJ.out.1
              subst hvp
              clear hn1
              obtain ⟨g, rfl, d0, cq, d1⟩ := HQ.out.1.2.2.1.cell jj HJ.out.1
              obtain ⟨X0, hX0⟩ : ∃ X0, X0 = ps[jj]'HJ.out.1 := ⟨_, rfl⟩
              rw [← hX0] at d0 d1
              have HXM : Hid (X0 ∈ ps) := hX0 ▸ List.getElem_mem HJ.out.1
              have HX1 : Hid (X0.1 = (pg : Int)) := hX0 ▸ HJ.out.2
              clear hX0
              obtain ⟨_, hxu⟩ := HQ.out.1.2.2.2.1 X0 HXM.out
              have HXU := Lib.hid hxu
              obtain ⟨x, hx⟩ : ∃ x, x = X0.2 := ⟨_, rfl⟩
              have HX2 : Hid (x = X0.2) := hx
              rw [← hx] at d1 HXU
              clear hx hxu
              obtain ⟨s, hs, hs2⟩ : ∃ s : Nat, (i : Int) + (q : Int) = (s : Int) ∧ s < n := ⟨i + q, by omega, by omega⟩
              obtain ⟨t, ht, ht2⟩ : ∃ t : Nat, (fr : Int) + (q : Int) = (t : Int) ∧ t < 4096 := ⟨fr + q, by omega, by omega⟩
              obtain ⟨y, hcy⟩ : ∃ y : Nat, wr.cell? ⟨x, t, none⟩ = some (.int .u8 (y : Int)) := ⟨_, HXU.out.cell t ht2⟩
              have hfz := HXU.out.thawed t
              have HW : Hid (RM (wr.setCell ⟨x, t, none⟩ (.int .u8 0)) base v vr vd (.slice (some ⟨g, 0, none⟩) n1 cc) ps (putAt M a (xs.take (i + (q + 1)))) L S X ∧ Kf v (.slice (some ⟨g, 0, none⟩) n1 cc) ps w (.slice (some ⟨g, 0, none⟩) n1 cc) ps (wr.setCell ⟨x, t, none⟩ (.int .u8 0))) := by
                have h1 := HQ.out.1.write HXM.out ht2 (z := 0) (by omega)
                rw [show X0.1.toNat * 4096 + t = a + s by rw [HX1.out]; omega, show i + q = s by omega, ← HGt.out s hs2, putAt_step M a xs s (by rw [HXl.out]; exact hs2), HGt.out s hs2] at h1
                rw [HX2.out, show i + (q + 1) = s + 1 by omega]
                exact ⟨h1, HQ.out.2.trans (Kf.of (Keeps.setCell wr X0.2 t _) (fun k _ e => .inr (.inr ⟨X0, HXM.out, (show k = X0.2 from e).symm⟩)))⟩
              go_wp2_with fail
              exact ⟨⟨q + 1, by omega, by go_num, HW⟩, by simp [intOf]; omega⟩
            · go_wp2_with fail
              refine ⟨⟨i + k, by omega, by go_num, ?_⟩, by simp [intOf]; omega⟩
              obtain rfl : q = k := by omega
              exact HQ
    · obtain rfl : i = n := by omega
      go_wp2_with fail
      go_end0
      have h2 := HI.out.1
      rw [List.take_of_length_le (by rw [HXl.out]; exact Nat.le_refl _)] at h2
      exact ⟨rfl, h2, HI.out.2⟩
end Go.Proofs.YtddgoncbdlhhhaaGreat
/- The document's own machine with pages: its bytes, as they lie there. Own work. -/
namespace Go.Proofs.YtddgoncbdlhhhaaGreat
open Go.RowKit Go.Maps Go.Proofs.YtddgoncbdlhhhaaGreat.Sp Wk
def fB (M : Nat → Nat) (a i : Nat) : Nat → Nat := fun x => if x < i then M (a + x) else 0
theorem P8.step {w : World} {g n : Nat} {M : Nat → Nat} {a s : Nat} (h : P8 w g n (fB M a s)) : P8 (w.setCell ⟨g, s, none⟩ (.int .u8 ((M (a + s) : Nat) : Int))) g n (fB M a (s + 1)) := by
  refine (h.set s (M (a + s))).congr fun i _ => ?_
  unfold fB
  by_cases e : i = s
  · rw [if_pos e, if_pos (by omega), e]
  · rw [if_neg e]
    by_cases e2 : i < s
    · rw [if_pos e2, if_pos (by omega)]
    · rw [if_neg e2, if_neg (by omega)]
set_option maxRecDepth 100000 in
set_option maxHeartbeats 4000000 in
theorem rbytes_at {w : World} {base v : Nat} {vr vd vp : Value} {ps : List (Int × Nat)} {M : Nat → Nat} {L S X a n : Nat} (h : RM w base v vr vd vp ps M L S X) (hn1 : 1 ≤ n) (hn : n ≤ 8) (ha : a + n ≤ 4294967400) :
    Calls Tryz.prog 51 #[.pointer (some ⟨v, 0, none⟩), .int .u64 (a : Int), .int .i64 (n : Int)] w fun e w' => e = .returned (.slice (some ⟨w.heap.size, 0, none⟩) n n) ∧ P8 w' w.heap.size n (fun i => M (a + i)) ∧ Below w.heap.size w w' := by
  obtain ⟨i, hi, hz0, hz1, hz2⟩ := info_parts info_byte
  have HR := Lib.hid h
  have hvl := h.2.1.lt
  clear h
  go_enter Tryz.func51, Tryz.ntmps51
  go_wp2_with (at_make; refine wpList_make_full _ rfl _ _ 27 rfl w.heap.size 5 i (.int .u8 0) 1 Tryz.underlying27 hi hz0 hz1 _ _ _ _ n rfl rfl (by omega) (by omega) (by rw [hz2]; omega) (by simp only [maxLen]; omega) (by simp) ?_)
  intro w1 hown hgrow
  have HB1 : Hid (Below w.heap.size w w1) := (Below.refl _ _).grown hgrow (by simp) (by simp)
  have HP1 : Hid (P8 w1 w.heap.size n (fB M a 0)) := by
    rcases hown.2 with ⟨hc, _⟩ | ⟨g', cap, cur, hv, _, hg, _, _, hs, ht⟩
    · cases hc
    · cases hv
      refine ⟨cur, hg, fun k hk => ?_⟩
      have e : (fB M a 0 k : Nat) = 0 := rfl
      rw [e, ← Array.getElem?_toList]
      have h0 : (cur.toList.take (n * 1))[k]? = some (.int .u8 ((0 : Nat) : Int)) := by
        rw [ht]
        simp [madeCells, hk, Nat.mod_one]
      rw [List.getElem?_take_of_lt (by omega)] at h0
      exact h0
  clear hown hgrow hi hz0 hz1 hz2
  go_wp2_with fail
  go_loopw [8] (fun iv wr => ∃ i : Nat, i ≤ n ∧ iv = .int .i64 (i : Int) ∧ Hid (P8 wr w.heap.size n (fB M a i) ∧ Below w.heap.size w wr)) (fun iv _ => n - (intOf iv).toNat)
  case atStart => exact ⟨0, Nat.zero_le _, rfl, HP1.out, HB1.out⟩
  case round =>
    obtain ⟨i, hi, rfl, HP⟩ := hrel
    by_cases hlt : i < n
    · have HRw : Hid (RM wr base v vr vd vp ps M L S X) := HR.out.below HP.out.2
      have qi : (i : Int) < (n : Int) := by omega
      have hai : (a : Int) + (i : Int) ≤ 18446744073709551615 := by omega
      obtain ⟨fr, hfr, hfr2⟩ : ∃ fr : Nat, ((a : Int) + (i : Int)) % 4096 = (fr : Int) ∧ fr < 4096 := ⟨(a + i) % 4096, by omega, by omega⟩
      obtain ⟨pg, hpg⟩ : ∃ pg : Nat, ((a : Int) + (i : Int)) / 4096 = (pg : Int) := ⟨(a + i) / 4096, by omega⟩
      have hw1 : IntKind.u64.wrap ((a : Int) + (i : Int)) = (a : Int) + (i : Int) := by rw [IntKind.wrap_u64]; omega
      have HF : Hid (Calls Tryz.prog 87 #[.pointer (some ⟨v, 0, none⟩), .int .u64 (pg : Int)] wr fun e w' => ∃ j : Int, e = .returned (.int .i64 j) ∧ Hid ((j = -1 ∧ ∀ x ∈ ps, x.1 ≠ (pg : Int)) ∨ ∃ i : Nat, j = (i : Int) ∧ ∃ hi : i < ps.length, (ps[i]'hi).1 = (pg : Int)) ∧ wr = w') := rfind_at HRw.out.rs (by have := HRw.out.pn.len; omega)
      obtain ⟨k, hk1, hk2, hk3, hkk⟩ : ∃ k : Nat, 1 ≤ k ∧ k ≤ n - i ∧ k + fr ≤ 4096 ∧ Hid ((decide ((k : Int) < 4096 - (fr : Int)) = true ∧ (n : Int) - (i : Int) = (k : Int)) ∨ (decide ((n : Int) - (i : Int) < (k : Int)) = false ∧ (4096 : Int) - (fr : Int) = (k : Int))) := by
        by_cases hc : n - i < 4096 - fr
        · exact ⟨n - i, by omega, by omega, by omega, .inl ⟨by simp; omega, by omega⟩⟩
        · exact ⟨4096 - fr, by omega, by omega, by omega, .inr ⟨by simp; omega, by omega⟩⟩
      go_upto_if 30 with fail
      go_cut [10] (fun s wx => s = .int .i64 (k : Int) ∧ wx = wr)
      case first =>
        rcases hkk.out with ⟨hci, hk⟩ | ⟨hci, hk⟩
        · have hcp : (n : Int) - (i : Int) < 4096 - (fr : Int) := by rw [hk]; exact of_decide_eq_true hci
          clear hci
          rw [hk] at hcp
          go_wp2_with fail
          go_meet
          exact ⟨rfl, rfl⟩
        · have hcp : ¬ (n : Int) - (i : Int) < (k : Int) := of_decide_eq_false hci
          clear hci
          go_wp2_with fail
          go_meet
          exact ⟨rfl, rfl⟩
      case rest =>
        obtain ⟨rfl, rfl⟩ := hcut
        clear hkk
        go_wp2_with fail
        refine HF.out.mono ?_
        rintro e w1 ⟨j, rfl, hj, rfl⟩
        clear HF
        rcases hj.out with ⟨rfl, hjx⟩ | ⟨jj, rfl, hjj, hjp⟩
        · clear hj
          have HZ : Hid (P8 wc w.heap.size n (fB M a (i + k))) := HP.out.1.congr fun x _ => by
            unfold fB
            by_cases e1 : x < i
            · rw [if_pos e1, if_pos (by omega)]
            · rw [if_neg e1]
              by_cases e2 : x < i + k
              · rw [if_pos e2, HRw.out.2.2.2.2.2.2.2 _ fun y hy => ?_]
                have := hjx y hy
                intro e
                exact this (e.trans (by omega))
              · rw [if_neg e2]
          clear hjx
          go_wp2_with fail
          refine wp_loop_rounds 1 ?_
          rw [rounds_succ]
          go_wp2_with fail
          refine ⟨⟨i + k, by omega, by go_num, HZ.out, HP.out.2⟩, by simp [intOf]; omega⟩
        · clear hj
          have HJ : Hid (∃ hi : jj < ps.length, (ps[jj]'hi).1 = (pg : Int)) := ⟨hjj, hjp⟩
          clear hjj hjp
          have jj0 : (0 : Int) ≤ (jj : Int) := Int.natCast_nonneg _
          go_wp2_with fail
          go_loopw [12] (fun qv wq => ∃ q : Nat, q ≤ k ∧ qv = .int .i64 (q : Int) ∧ Hid (P8 wq w.heap.size n (fB M a (i + q)) ∧ Below w.heap.size w wq)) (fun qv _ => k - (intOf qv).toNat)
          case atStart => exact ⟨0, Nat.zero_le _, rfl, HP.out⟩
          case round =>
            clear HP HRw
            obtain ⟨q, hq, rfl, HQ⟩ := hrel
            by_cases hqk : q < k
            · have qki : (q : Int) < (k : Int) := by omega
              have HRq : Hid (RM wr base v vr vd vp ps M L S X) := HR.out.below HQ.out.2
              obtain ⟨c0, c1, c2, _⟩ := HRq.out.2.1.cells
              obtain ⟨a1, cc, hvp, hc1, hc2, _⟩ := HRq.out.2.2.1.form
              unfold maxLen at hc2
              obtain ⟨n1, hn1'⟩ : ∃ n1, n1 = ps.length := ⟨_, rfl⟩
              have HN1 : Hid (n1 = ps.length) := hn1'
              rw [← hn1'] at hvp hc1
              have hjn : jj < n1 := by rw [HN1.out]; exact HJ.out.1
              subst hvp
              clear hn1'
              obtain ⟨g, rfl, d0, cq, d1⟩ := HRq.out.2.2.1.cell jj HJ.out.1
              obtain ⟨X0, hX0⟩ : ∃ X0, X0 = ps[jj]'HJ.out.1 := ⟨_, rfl⟩
              rw [← hX0] at d0 d1
              have HXM : Hid (X0 ∈ ps) := hX0 ▸ List.getElem_mem HJ.out.1
              have HX1 : Hid (X0.1 = (pg : Int)) := hX0 ▸ HJ.out.2
              clear hX0
              obtain ⟨_, hxu⟩ := HRq.out.2.2.2.1 X0 HXM.out
              generalize X0.2 = x at d1 hxu
              have HXU := Lib.hid hxu
              clear hxu
              obtain ⟨s, hs, hs2⟩ : ∃ s : Nat, (i : Int) + (q : Int) = (s : Int) ∧ s < n := ⟨i + q, by omega, by omega⟩
              obtain ⟨t, ht, ht2⟩ : ∃ t : Nat, (fr : Int) + (q : Int) = (t : Int) ∧ t < 4096 := ⟨fr + q, by omega, by omega⟩
              have hcy := HXU.out.cell t ht2
              rw [show X0.1.toNat * 4096 + t = a + s by rw [HX1.out]; omega] at hcy
              obtain ⟨y, hcz⟩ : ∃ y : Nat, wr.cell? ⟨w.heap.size, s, none⟩ = some (.int .u8 (y : Int)) := ⟨_, HQ.out.1.cell s hs2⟩
              have hfz := HQ.out.1.thawed s
              have HW : Hid (P8 (wr.setCell ⟨w.heap.size, s, none⟩ (.int .u8 ((M (a + s) : Nat) : Int))) w.heap.size n (fB M a (i + (q + 1))) ∧ Below w.heap.size w (wr.setCell ⟨w.heap.size, s, none⟩ (.int .u8 ((M (a + s) : Nat) : Int)))) := by
                rw [show i + (q + 1) = s + 1 by omega]
                exact ⟨P8.step (by rw [show s = i + q by omega]; exact HQ.out.1), HQ.out.2.setCell (Nat.le_refl _) _⟩
              generalize M (a + s) = z at hcy HW
              go_wp2_with fail
              exact ⟨⟨q + 1, by omega, by go_num, HW⟩, by simp [intOf]; omega⟩
            · obtain rfl : q = k := by omega
              go_wp2_with fail
              exact ⟨⟨i + q, by omega, by go_num, HQ.out⟩, by simp [intOf]; omega⟩
    · obtain rfl : i = n := by omega
      go_wp2_with fail
      go_ret
      exact ⟨rfl, HP.out.1.congr fun x hx => by unfold fB; rw [if_pos hx], HP.out.2⟩
end Go.Proofs.YtddgoncbdlhhhaaGreat
