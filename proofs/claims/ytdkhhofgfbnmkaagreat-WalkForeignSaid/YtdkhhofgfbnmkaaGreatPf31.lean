import Derived.Test.YtdkhhofgfbnmkaaGreatPf30
/- The document's own lay, block by block, and the numbers of its pages. Own work. -/
namespace Go.Proofs.YtdkhhofgfbnmkaaGreat
open Go.RowKit Go.Maps Go.Proofs.YtdkhhofgfbnmkaaGreat.Sp Wk
/-- what lay keeps: s bytes are laid -/
def LayF (vp0 : Value) (ps0 : List (Int × Nat)) (w0 w : World) (base v : Nat) (vr vd : Value) (L S X gb : Nat) (xs : List Nat) (M : Nat → Nat) (a s : Nat) (vp : Value) (ps : List (Int × Nat)) (NN : List Int) : Prop := RM w base v vr vd vp ps (putAt M a (xs.take s)) L S X ∧ P8 w gb xs.length (fun i => xs.getD i 0) ∧ Kf v vp0 ps0 w0 vp ps w ∧ (∀ x ∈ ps, x.2 ≠ gb) ∧ base ≤ w.heap.size ∧ ps.map Prod.fst = NN
theorem LayF.write {vp0 : Value} {ps0 : List (Int × Nat)} {NN : List Int} {w0 w : World} {base v : Nat} {vr vd vp : Value} {L S X gb a s : Nat} {xs : List Nat} {M : Nat → Nat} {ps : List (Int × Nat)} (h : LayF vp0 ps0 w0 w base v vr vd L S X gb xs M a s vp ps NN) {x : Int × Nat} (hx : x ∈ ps) {t : Nat} (ht : t < 4096) (hs : s < xs.length) (hz : ∀ z ∈ xs, z < 256) (he : x.1.toNat * 4096 + t = a + s) : LayF vp0 ps0 w0 (w.setCell ⟨x.2, t, none⟩ (.int .u8 ((xs.getD s 0 : Nat) : Int))) base v vr vd L S X gb xs M a (s + 1) vp ps NN := by
  have hzs : xs.getD s 0 < 256 := by
    rw [List.getD_eq_getElem?_getD, List.getElem?_eq_getElem hs]
    exact hz _ (List.getElem_mem hs)
  have h1 := h.1.write hx ht hzs
  rw [he, putAt_step M a xs s hs] at h1
  refine ⟨h1, h.2.1.keeps (Keeps.setCell w x.2 t _) (fun e => h.2.2.2.1 x hx e.symm), h.2.2.1.trans (Kf.of (Keeps.setCell w x.2 t _) (fun k _ e => .inr (.inr ⟨x, hx, (show k = x.2 from e).symm⟩))), h.2.2.2.1, Nat.le_trans h.2.2.2.2.1 (Keeps.setCell w x.2 t (.int .u8 ((xs.getD s 0 : Nat) : Int))).size, h.2.2.2.2.2⟩
set_option maxRecDepth 100000 in
set_option maxHeartbeats 2000000 in
theorem rlay_f {w : World} {base v : Nat} {vr vd vp : Value} {ps : List (Int × Nat)} {M : Nat → Nat} {L S X a n gb cb : Nat} {xs : List Nat} (h : RM w base v vr vd vp ps M L S X) (hb : base ≤ w.heap.size) (hB : P8 w gb xs.length (fun i => xs.getD i 0)) (hnb : ∀ x ∈ ps, x.2 ≠ gb) (hxl : xs.length = n) (hxs : ∀ z ∈ xs, z < 256) (hn : n ≤ 8) (hcb : n ≤ cb) (ha : a + n ≤ 4294967400) :
    Calls Tryz.prog 34 #[.pointer (some ⟨v, 0, none⟩), .int .u64 (a : Int), .slice (some ⟨gb, 0, none⟩) n cb, .int .i64 (n : Int), .int .u8 0] w fun e w' => e = .returned (.tuple #[]) ∧ ∃ vp' ps', RM w' base v vr vd vp' ps' (putAt M a xs) L S X ∧ Kf v vp ps w vp' ps' w' ∧ ps'.map Prod.fst = addN (ps.map Prod.fst) a n := by
  obtain ⟨NS, hNS⟩ : ∃ NS, ps.map Prod.fst = NS := ⟨_, rfl⟩
  rw [hNS]
  have HI0 : Hid (∃ vp' ps', LayF vp ps w w base v vr vd L S X gb xs M a 0 vp' ps' (addN NS a 0)) := ⟨vp, ps, by rw [List.take_zero, putAt_nil]; exact h, hB, Kf.refl _ _ _ _, hnb, hb, hNS⟩
  have HXl := Lib.hid hxl
  have HXs := Lib.hid hxs
  have hgb := hB.lt
  clear h hB hb hnb hxl hxs hNS
  have hmk : ∀ W : World, (Instr.makeSlice 50 (.int .i64 4096) (.int .i64 4096)).run Tryz.prog W = .ok (.slice (some ⟨W.heap.size, 0, none⟩) 4096 4096) (W.alloc (.cells zc 5)) := make_page
  go_enter Tryz.func34, Tryz.ntmps34
  go_wp2_with fail
  go_loopw [10] (fun iv wr => ∃ i : Nat, i ≤ n ∧ iv = .int .i64 (i : Int) ∧ Hid (∃ vp' ps', LayF vp ps w wr base v vr vd L S X gb xs M a i vp' ps' (addN NS a i))) (fun iv _ => n - (intOf iv).toNat)
  case atStart => exact ⟨0, Nat.zero_le _, rfl, HI0⟩
  case round =>
    obtain ⟨i, hi, rfl, HI⟩ := hrel
    by_cases hlt : i < n
    · obtain ⟨vp1, ps1, HI1⟩ := HI.out
      have HL := Lib.hid HI1
      clear HI1 HI HI0
      have qi : (i : Int) < (n : Int) := by omega
      have hai : (a : Int) + (i : Int) ≤ 18446744073709551615 := by omega
      obtain ⟨fr, hfr, hfr2⟩ : ∃ fr : Nat, ((a : Int) + (i : Int)) % 4096 = (fr : Int) ∧ fr < 4096 := ⟨(a + i) % 4096, by omega, by omega⟩
      have HSm : Hid (∀ k, 1 ≤ k → k + fr ≤ 4096 → addN NS a (i + k) = addN NS a (i + 1)) := fun k h1 h2 => by
        obtain ⟨k', rfl⟩ : ∃ k', k = k' + 1 := ⟨k - 1, by omega⟩
        exact addN_same NS a i k' (by omega)
      obtain ⟨pg, hpg⟩ : ∃ pg : Nat, ((a : Int) + (i : Int)) / 4096 = (pg : Int) := ⟨(a + i) / 4096, by omega⟩
      have HSt : Hid (addN NS a (i + 1) = addP (addN NS a i) (pg : Int)) := by
        show addP _ _ = _
        rw [← hpg, Int.natCast_ediv, Int.natCast_add]
        rfl
      have hw1 : IntKind.u64.wrap ((a : Int) + (i : Int)) = (a : Int) + (i : Int) := by rw [IntKind.wrap_u64]; omega
      have HF : Hid (Calls Tryz.prog 57 #[.pointer (some ⟨v, 0, none⟩), .int .u64 (pg : Int)] wr fun e w' => ∃ j : Int, e = .returned (.int .i64 j) ∧ Hid ((j = -1 ∧ ∀ x ∈ ps1, x.1 ≠ (pg : Int)) ∨ ∃ i : Nat, j = (i : Int) ∧ ∃ hi : i < ps1.length, (ps1[i]'hi).1 = (pg : Int)) ∧ wr = w') := rfind_at HL.out.1.rs (by have := HL.out.1.pn.len; omega)
      obtain ⟨k, hk1, hk2, hk3, hkk⟩ : ∃ k : Nat, 1 ≤ k ∧ k ≤ n - i ∧ k + fr ≤ 4096 ∧ Hid ((decide ((k : Int) < 4096 - (fr : Int)) = true ∧ (n : Int) - (i : Int) = (k : Int)) ∨ (decide ((n : Int) - (i : Int) < (k : Int)) = false ∧ (4096 : Int) - (fr : Int) = (k : Int))) := by
        by_cases hc : n - i < 4096 - fr
        · exact ⟨n - i, by omega, by omega, by omega, .inl ⟨by simp; omega, by omega⟩⟩
        · exact ⟨4096 - fr, by omega, by omega, by omega, .inr ⟨by simp; omega, by omega⟩⟩
      go_upto_if 31 with fail
      go_cut [12] (fun s wx => s = .int .i64 (k : Int) ∧ wx = wr)
      case first =>
        rcases hkk.out with ⟨hci, hk⟩ | ⟨hci, hk⟩
        · have hcp : (n : Int) - (i : Int) < 4096 - (fr : Int) := by rw [hk]; exact of_decide_eq_true hci
          clear hci
          rw [hk] at hcp
          go_wp2_with fail
          go_meet
          exact ⟨rfl, rfl⟩
        · have hcp : ¬ (n : Int) - (i : Int) < (k : Int) := of_decide_eq_false hci
          clear hci
          go_wp2_with fail
          go_meet
          exact ⟨rfl, rfl⟩
      case rest =>
        obtain ⟨rfl, rfl⟩ := hcut
        clear hkk
        go_wp2_with fail
        refine HF.out.mono ?_
        rintro e w1 ⟨j, rfl, hj, rfl⟩
        clear HF
        go_upto_region 7 with fail
        go_cut [51] (fun s wx => s = .bool (decide (j < 0)) ∧ wx = wc)
        case first =>
          rcases hj.out with ⟨rfl, hjx⟩ | ⟨j0, rfl, hj0, hj1⟩
          · go_wp2_with fail
            go_meet
            exact ⟨rfl, rfl⟩
          · have hjn : decide ((j0 : Int) < 0) = false := by simp
            go_wp2_with fail
            go_meet
            exact ⟨by go_num, rfl⟩
        case rest =>
          obtain ⟨rfl, hwc⟩ := hcut
          subst hwc
          go_upto_if 51 with fail
          go_cut [13] (fun s wx => ∃ (jj : Nat) (vp2 : Value) (ps2 : List (Int × Nat)), s = .int .i64 (jj : Int) ∧ Hid (∃ hi : jj < ps2.length, (ps2[jj]'hi).1 = (pg : Int)) ∧ Hid (LayF vp ps w wx base v vr vd L S X gb xs M a i vp2 ps2 (addN NS a (i + 1))))
          case first =>
            rcases hj.out with ⟨rfl, hjx⟩ | ⟨j0, rfl, hj0, hj1⟩
            · clear hj
              have HJX := Lib.hid hjx
              clear hjx
              obtain ⟨c0, c1, c2, _⟩ := HL.out.1.2.1.cells
              have hvl := HL.out.1.2.1.lt
              have hv1 : v ≠ wc.heap.size := by omega
              have hv2 : v ≠ wc.heap.size + 1 := by omega
              obtain ⟨a1, cc, hvp, hc1, hc2, _⟩ := HL.out.1.2.2.1.form
              unfold maxLen at hc2
              obtain ⟨n1, hn1⟩ : ∃ n1, n1 = ps1.length := ⟨_, rfl⟩
              have HN1 : Hid (n1 = ps1.length) := hn1
              rw [← hn1] at hvp hc1
              have hn1l : n1 ≤ 2097153 := by rw [HN1.out]; exact HL.out.1.pn.len
              subst hvp
              clear hn1
              have HO : Hid (OwnP (W2 wc (pg : Int)) base (.slice a1 n1 cc) ps1) := HL.out.1.2.2.1.keeps (W2.keeps wc (pg : Int)) (fun _ _ e => e)
              have HC : Hid ((W2 wc (pg : Int)).cell? ⟨wc.heap.size + 1, 0, none⟩ = some (.int .u64 (pg : Int)) ∧ (W2 wc (pg : Int)).cell? ⟨wc.heap.size + 1, 1, none⟩ = some (.slice (some ⟨wc.heap.size, 0, none⟩) 4096 4096)) := W2.cells wc (pg : Int)
              have HA : Hid (∀ v2 w2, OwnP w2 base v2 (ps1 ++ [((pg : Int), wc.heap.size)]) → (W2 wc (pg : Int)).grownBy w2 (Value.slice a1 n1 cc).ownBlock → (v2.ownBlock = (Value.slice a1 n1 cc).ownBlock ∨ v2.ownBlock = some (W2 wc (pg : Int)).heap.size) → LayF vp ps w (w2.setCell ⟨v, 2, none⟩ v2) base v vr vd L S X gb xs M a i v2 (ps1 ++ [((pg : Int), wc.heap.size)]) (addN NS a (i + 1)) ∧ w2.cell? ⟨v, 2, none⟩ = some (.slice a1 n1 cc) ∧ w2.frozen? ⟨v, 2, none⟩ = false) := fun v2 w2 ho hg hfr => by
                obtain ⟨r1, r2, r3, r4, r5, r6⟩ := HL.out.1.app HL.out.2.2.2.2.1 pg (by omega) HJX.out ho hg
                refine ⟨⟨r1, r3 _ _ _ HL.out.2.1, HL.out.2.2.1.trans (kf_app hg hfr), fun x hx => ?_, r6, ?_⟩, r4, r5⟩
                rotate_left
                · rw [HSt.out, addP_new (fun hm => ?_), List.map_append, HL.out.2.2.2.2.2]
                  · rfl
                  · rw [← HL.out.2.2.2.2.2] at hm
                    obtain ⟨x, hx, e⟩ := List.mem_map.1 hm
                    exact HJX.out x hx e
                rcases List.mem_append.1 hx with hx | hx
                · exact HL.out.2.2.2.1 x hx
                · rw [List.mem_singleton.1 hx]
                  have := HL.out.2.1.lt
                  show wc.heap.size ≠ gb
                  omega
              have HBs : Hid (base ≤ (W2 wc (pg : Int)).heap.size) := Nat.le_trans HL.out.2.2.2.2.1 (W2.keeps wc (pg : Int)).size
              have hw0 : IntKind.u64.wrap (i : Int) = (i : Int) := by rw [IntKind.wrap_u64]; omega
              have hw2 : IntKind.u64.wrap (((a : Int) + (i : Int)).tdiv 4096) = (pg : Int) := by rw [Int.tdiv_eq_ediv_of_nonneg (by omega), hpg, IntKind.wrap_u64]; omega
              have HLn : Hid (ps1.length ≤ 1099511627776) := by show _ ≤ _; rw [← HN1.out]; omega
              go_wp2_with fail
              go_region_law (refine step_appPF (base := base) (v := .slice a1 n1 cc) (ps := ps1) (x := ((pg : Int), wc.heap.size)) (by kernel_rfl) (.tmp 61) (.tmp 69) (by rfl) (by rfl) (by exact HO.out) (by rfl) (by exact HC.out.1) (by exact HC.out.2) HLn.out (by exact HBs.out) ?_; intro va vn vc w2 ho hg hfr; obtain ⟨hl2, hc2, hf2⟩ := HA.out _ w2 ho hg hfr; have HL2 := Lib.hid hl2; clear hl2 ho hg hfr)
              all_goals
                go_wp2_with fail
                go_meet
                exact ⟨n1, _, _, rfl, ⟨by rw [HN1.out, List.length_append]; exact Nat.lt_succ_self _, by simp [HN1.out]⟩, HL2⟩
            · clear hj
              have HJ : Hid (∃ hi : j0 < ps1.length, (ps1[j0]'hi).1 = (pg : Int)) := ⟨hj0, hj1⟩
              clear hj0 hj1
              have HL2 : Hid (LayF vp ps w wc base v vr vd L S X gb xs M a i vp1 ps1 (addN NS a (i + 1))) := by
                refine ⟨HL.out.1, HL.out.2.1, HL.out.2.2.1, HL.out.2.2.2.1, HL.out.2.2.2.2.1, ?_⟩
                rw [HSt.out, addP_in, HL.out.2.2.2.2.2]
                rw [← HL.out.2.2.2.2.2, ← HJ.out.2]
                exact List.mem_map_of_mem (List.getElem_mem HJ.out.1)
              go_wp2_with fail
              go_meet
              exact ⟨j0, _, _, rfl, HJ, HL2⟩
          case rest =>
            obtain ⟨jj, vp2, ps2, rfl, HJ, HL2⟩ := hcut
            clear hj HL
            have jj0 : (0 : Int) ≤ (jj : Int) := Int.natCast_nonneg _
            go_wp2_with fail
            go_loopw [14] (fun qv wq => ∃ q : Nat, q ≤ k ∧ qv = .int .i64 (q : Int) ∧ Hid (LayF vp ps w wq base v vr vd L S X gb xs M a (i + q) vp2 ps2 (addN NS a (i + 1)))) (fun qv _ => k - (intOf qv).toNat)
            case atStart => exact ⟨0, Nat.zero_le _, rfl, HL2⟩
            case round =>
              obtain ⟨q, hq, rfl, HQ⟩ := hrel
              by_cases hqk : q < k
              · have qki : (q : Int) < (k : Int) := by omega
                obtain ⟨c0, c1, c2, _⟩ := HQ.out.1.2.1.cells
                obtain ⟨a1, cc, hvp, hc1, hc2, _⟩ := HQ.out.1.2.2.1.form
                unfold maxLen at hc2
                obtain ⟨n1, hn1⟩ : ∃ n1, n1 = ps2.length := ⟨_, rfl⟩
                have HN1 : Hid (n1 = ps2.length) := hn1
                rw [← hn1] at hvp hc1
                have hjn : jj < n1 := by rw [HN1.out]; exact HJ.out.1
                subst hvp
                clear hn1
                obtain ⟨g, rfl, d0, d1⟩ := HQ.out.1.2.2.1.cell jj HJ.out.1
                obtain ⟨X0, hX0⟩ : ∃ X0, X0 = ps2[jj]'HJ.out.1 := ⟨_, rfl⟩
                rw [← hX0] at d0 d1
                have HXM : Hid (X0 ∈ ps2) := hX0 ▸ List.getElem_mem HJ.out.1
                have HX1 : Hid (X0.1 = (pg : Int)) := hX0 ▸ HJ.out.2
                clear hX0
                obtain ⟨_, hxu⟩ := HQ.out.1.2.2.2.1 X0 HXM.out
                have HXU := Lib.hid hxu
                obtain ⟨x, hx⟩ : ∃ x, x = X0.2 := ⟨_, rfl⟩
                have HX2 : Hid (x = X0.2) := hx
                rw [← hx] at d1 HXU
                clear hx hxu
                obtain ⟨s, hs, hs2⟩ : ∃ s : Nat, (i : Int) + (q : Int) = (s : Int) ∧ s < n := ⟨i + q, by omega, by omega⟩
                obtain ⟨t, ht, ht2⟩ : ∃ t : Nat, (fr : Int) + (q : Int) = (t : Int) ∧ t < 4096 := ⟨fr + q, by omega, by omega⟩
                have hcz := HQ.out.2.1.cell s (by rw [HXl.out]; exact hs2)
                obtain ⟨y, hcy⟩ : ∃ y : Nat, wr.cell? ⟨x, t, none⟩ = some (.int .u8 (y : Int)) := ⟨_, HXU.out.cell t ht2⟩
                have hfz := HXU.out.thawed t
                have HW : Hid (LayF vp ps w (wr.setCell ⟨x, t, none⟩ (.int .u8 ((xs.getD s 0 : Nat) : Int))) base v vr vd L S X gb xs M a (i + (q + 1)) (.slice (some ⟨g, 0, none⟩) n1 cc) ps2 (addN NS a (i + 1))) := by
                  rw [HX2.out, show i + (q + 1) = s + 1 by omega]
                  exact LayF.write (by rw [show s = i + q by omega]; exact HQ.out) HXM.out ht2 (by rw [HXl.out]; exact hs2) HXs.out (by rw [HX1.out]; omega)
                generalize xs.getD s 0 = z at hcz HW
                go_wp2_with fail
                exact ⟨⟨q + 1, by omega, by go_num, HW⟩, by simp [intOf]; omega⟩
              · go_wp2_with fail
                refine ⟨⟨i + k, by omega, by go_num, ?_⟩, by simp [intOf]; omega⟩
                obtain rfl : q = k := by omega
                exact ⟨_, _, by rw [HSm.out _ hk1 hk3]; exact HQ.out⟩
    · obtain rfl : i = n := by omega
      go_wp2_with fail
      go_end0
      obtain ⟨vp1, ps1, h1⟩ := HI.out
      have h2 := h1.1
      rw [List.take_of_length_le (by rw [HXl.out]; exact Nat.le_refl _)] at h2
      exact ⟨rfl, vp1, ps1, h2, h1.2.2.1, h1.2.2.2.2.2⟩
end Go.Proofs.YtdkhhofgfbnmkaaGreat
/- The document's own Store, block by block. Own work. -/
namespace Go.Proofs.YtdkhhofgfbnmkaaGreat
open Go.RowKit Go.Maps Go.Proofs.YtdkhhofgfbnmkaaGreat.Sp Wk
/-- what the document's own Store does -/
def RStF (w : World) (base v : Nat) (vr vd vp : Value) (ps : List (Int × Nat)) (M : Nat → Nat) (LL : List Sp) (L S X a n val : Nat) (e : Ending) (w' : World) : Prop :=
  ∃ x b, OffR LL a n x b ∧ e = .returned (FaultV (if b then 30 else 0) x) ∧ (b = true → RM w' base v vr vd vp ps M L S (X + 1) ∧ Kf v vp ps w vp ps w') ∧ (b = false → ∃ vp' ps', RM w' base v vr vd vp' ps' (putAt M a ((Pl.le 8 val).take n)) L (S + 1) X ∧ Kf v vp ps w vp' ps' w' ∧ ps'.map Prod.fst = addN (ps.map Prod.fst) a n)
set_option maxRecDepth 100000 in
set_option maxHeartbeats 2000000 in
theorem rstore_f {w : World} {base v : Nat} {vr vd vp : Value} {ps : List (Int × Nat)} {M : Nat → Nat} {rs ds : List Sp} {L S X a n val : Nat} (h : RM w base v vr vd vp ps M L S X) (hw : Wide n) (hb : base ≤ w.heap.size) (hr : U64.SV w vr rs) (hd : U64.SV w vd ds) (hs : Sane (rs ++ ds)) (hll : rs.length + ds.length ≤ 64) (ha : a ≤ 18446744073709551615) (hX : X ≤ 4611686018427387904) (hS : S ≤ 4611686018427387904) :
    Calls Tryz.prog 11 #[.pointer (some ⟨v, 0, none⟩), .int .u64 (a : Int), .int .i64 (n : Int), .int .u64 (val : Int)] w (RStF w base v vr vd vp ps M (rs ++ ds) L S X a n val) := by
  have HR := Lib.hid h
  have HAc : Hid (∀ W, Below w.heap.size w W → Calls Tryz.prog 33 #[.pointer (some ⟨v, 0, none⟩), .int .u64 (a : Int), .int .i64 (n : Int)] W (RAsk W v vr vd vp (rs ++ ds) L S X a n)) := fun W hW => raccess_any (h.2.1.below hW) (hr.below hW (Nat.le_refl _)) (hd.below hW (Nat.le_refl _)) hs hll ha (by rcases hw with h | h | h | h <;> omega) hX
  have HS := Lib.hid hs
  have HRt : Hid (∀ W, Calls Tryz.prog 32 #[.int .i64 (n : Int)] W fun e w' => e = .returned (.bool true) ∧ w' = W) := right_wide hw
  have hvl := h.2.1.lt
  generalize rs ++ ds = LL at *
  have hn1 : 1 ≤ n := by rcases hw with h | h | h | h <;> omega
  have hn8 : n ≤ 8 := by rcases hw with h | h | h | h <;> omega
  clear h hr hd hs hll hw
  go_enter Tryz.func11, Tryz.ntmps11
  go_wp2_with fail
  refine (HRt.out _).mono ?_
  rintro e w1 ⟨rfl, rfl⟩
  go_wp2_with fail
  refine (HAc.out _ ((Below.refl _ _).alloc (Nat.le_refl _) _)).mono ?_
  rintro e w1 ⟨x, b, hoff, rfl, hbx, hk1⟩
  have HXX : Hid (x = x) := rfl
  have hkw : Keeps (fun j => j = v) w w1 := (Keeps.alloc (S := fun j => j = v) w _).trans hk1 (fun _ _ e => e)
  have HX1 : Hid (BoxG w1 w.heap.size 0 0) := (BoxG.new w 0 0).keeps hk1 (show ¬ w.heap.size = v by omega)
  obtain ⟨r1, k1⟩ := HR.out.box hkw hbx
  have HR1 := Lib.hid r1
  have HK1 : Hid (Kf v vp ps w vp ps w1) := Kf.one hkw
  have hlt1 := HX1.out.lt
  have HOf := Lib.hid hoff
  clear hkw hbx hk1 r1 k1 HAc HR hoff
  obtain ⟨W3, hW3⟩ : ∃ W3, w1.alloc (Obj.cells #[.int .i64 (if b = true then 30 else 0), .int .u64 x] 41) = W3 := ⟨_, rfl⟩
  have HB3 : Hid (Below w1.heap.size w1 W3) := hW3 ▸ (Below.refl _ _).alloc (Nat.le_refl _) _
  have HF3 : Hid (BoxG W3 w1.heap.size (if b = true then 30 else 0) x) := hW3 ▸ BoxG.new w1 _ _
  have HX3 : Hid (BoxG W3 w.heap.size 0 0) := HX1.out.below HB3.out
  have HR3 : Hid (RM W3 base v vr vd vp ps M L S (up b X)) := HR1.out.below HB3.out
  have HK3 : Hid (Kf v vp ps w vp ps W3) := HK1.out.trans (Kf.below HB3.out)
  have hne : w.heap.size ≠ w1.heap.size := by omega
  have hbs : base ≤ W3.heap.size := by have := HB3.out.size; omega
  have hl3 : w1.heap.size < W3.heap.size := HF3.out.lt
  clear HX1 HR1 HK1 HB3
  unfold FaultV
  cases b with
  | true =>
    simp only [if_true] at hW3 HF3
    obtain ⟨x0, x1, f0, f1⟩ := HX3.out.cells
    obtain ⟨y0, y1, _, _⟩ := HF3.out.cells
    go_wp2_with fail
    clear hW3
    obtain ⟨d0, d1, _⟩ := (HX3.out.set 30 x).cells
    refine bodyPost_ret (v := .agg #[.int .i64 30, .int .u64 x]) (by simp [results, Tryz.results11, go_sem, d0, d1]) rfl ?_
    have hk2 := Keeps.two W3 w.heap.size (.int .i64 30) (.int .u64 x)
    exact ⟨x, true, HOf.out, rfl, fun _ => ⟨HR3.out.keeps hk2 HX3.out.notVB, HK3.out.after hk2 (fun j hj e => by omega)⟩, fun h => absurd h (by decide)⟩
  | false =>
    obtain ⟨rfl, hon⟩ := HOf.out.2 rfl
    have ha8 : (a : Int) ≤ 4294967296 := on_le HS.out (hon 0 (by omega))
    clear hon
    simp only [if_false, Bool.false_eq_true] at hW3 HF3
    have HW3 := Lib.hid hW3
    have HW4 : Hid (BoxG (w1.alloc (Obj.cells #[.int .i64 0, .int .u64 0] 41)) w1.heap.size 0 0) := BoxG.new w1 0 0
    clear hW3
    go_wp2_with fail
    go_loopw [10, 11] (fun bv iv wr => ∃ i : Nat, i ≤ n ∧ iv = .int .i64 (i : Int) ∧ ∃ a1 n1 c1, bv = .slice a1 n1 c1 ∧ Hid (Own wr W3.heap.size (.slice a1 n1 c1) ((Pl.le 8 val).take i)) ∧ Hid (Below W3.heap.size W3 wr)) (fun _ iv _ => n - (intOf iv).toNat)
    case atStart => exact ⟨0, by omega, rfl, none, 0, 0, rfl, own_nil _ _, HW3.out ▸ Below.refl _ _⟩
    case round =>
      obtain ⟨i, hi, rfl, a1, n1, c1, rfl, HO, HB⟩ := hrel
      by_cases hlt : i < n
      · have HO1 := HO
        have HTk : Hid ((Pl.le 8 val).take (i + 1) = (Pl.le 8 val).take i ++ [val / 2 ^ (8 * i) % 256]) := le_take_succ val i (by omega)
        have HXl : Hid (((Pl.le 8 val).take i).length = i) := by show _ = _; rw [List.length_take, Pl.le_length]; omega
        generalize (Pl.le 8 val).take i = xs at *
        clear HO
        have qi : (i : Int) < (n : Int) := by omega
        obtain ⟨r, hrr, hr2⟩ : ∃ r : Nat, (val : Int) / 2 ^ (8 * i) = (r : Int) ∧ Hid (val / 2 ^ (8 * i) = r) := ⟨val / 2 ^ (8 * i), by rw [Int.natCast_ediv, Int.natCast_pow]; rfl, rfl⟩
        have hba : Below W3.heap.size W3 (wr.alloc (Obj.cells #[.int .u8 ((r : Int) % 256)] 5)) := HB.out.alloc HB.out.size _
        have F1 : Hid (Own (wr.alloc (Obj.cells #[.int .u8 ((r : Int) % 256)] 5)) W3.heap.size (.slice a1 n1 c1) xs) := HO1.out.below ((Below.refl _ _).alloc (Nat.le_refl _) _)
        have F2 : Hid (Sl (wr.alloc (Obj.cells #[.int .u8 ((r : Int) % 256)] 5)) (.slice (some ⟨wr.heap.size, 0, none⟩) 1 1) [r % 256]) := sl_one wr r
        have F6 : Hid (xs.length + [r % 256].length ≤ 1099511627776) := by show _ ≤ _; rw [HXl.out]; simp; omega
        have F7 : Hid (W3.heap.size ≤ (wr.alloc (Obj.cells #[.int .u8 ((r : Int) % 256)] 5)).heap.size) := hba.size
        have HBa := Lib.hid hba
        clear hba
        go_wp2_with (refine wpList_append_sl (.tmp 30) (.tmp 37) rfl rfl rfl F1.out rfl F2.out F6.out F7.out ?_)
        intro v' w5 ho hg5 ho3
        obtain ⟨a', n', c', rfl⟩ : ∃ a n c, v' = .slice a n c := by
          rcases ho.2 with ⟨rfl, _⟩ | ⟨g, cap, cur, rfl, _⟩
          · exact ⟨_, _, _, rfl⟩
          · exact ⟨_, _, _, rfl⟩
        have HO5 : Hid (Own w5 W3.heap.size (.slice a' n' c') ((Pl.le 8 val).take (i + 1))) := by
          rw [HTk.out, hr2.out]
          exact ho
        have HB5 : Hid (Below W3.heap.size W3 w5) := HBa.out.grown hg5 F7.out (fun k e => (F1.out.lt k e).1)
        clear ho hg5 ho3
        go_wp2_with fail
        exact ⟨⟨i + 1, by omega, by go_num, a', n', c', rfl, HO5, HB5⟩, by simp [intOf]; omega⟩
      · obtain rfl : i = n := by omega
        have hxl : ((Pl.le 8 val).take i).length = i := by rw [List.length_take, Pl.le_length]; omega
        obtain ⟨g, cap, hv, hg0, hg1, hg2, hg3⟩ := HO.out.form (by omega)
        rw [hxl] at hv hg2
        cases hv
        have hRr := HR3.out.below HB.out
        have HRr := Lib.hid hRr
        have hgl : ∀ x ∈ ps, x.2 ≠ g := fun x hx e => by
          have h1 := (HR3.out.2.2.2.1 x hx).2.lt
          have h2 := (HO.out.lt g rfl).1
          omega
        have HLy : Hid (Calls Tryz.prog 34 #[.pointer (some ⟨v, 0, none⟩), .int .u64 (a : Int), .slice (some ⟨g, 0, none⟩) i c1, .int .i64 (i : Int), .int .u8 0] wr fun e w' => e = .returned (.tuple #[]) ∧ ∃ vp' ps', RM w' base v vr vd vp' ps' (putAt M a ((Pl.le 8 val).take i)) L S X ∧ Kf v vp ps wr vp' ps' w' ∧ ps'.map Prod.fst = addN (ps.map Prod.fst) a i) := rlay_f HRr.out (Nat.le_trans hbs HB.out.size) HO.out.p8 hgl hxl (fun z hz => Pl.le_small 8 val z (List.mem_of_mem_take hz)) hn8 hg2 (by omega)
        have hwb : W3.heap.size ≤ wr.heap.size := HB.out.size
        clear hRr HO hxl hg0 hg1 hg2 hg3 hgl
        go_wp2_with fail
        refine HLy.out.mono ?_
        rintro e w6 ⟨rfl, vp', ps', hr6, hk6, hg6⟩
        have HR6 := Lib.hid hr6
        have HG6 := Lib.hid hg6
        have HK6 := Lib.hid hk6
        have HX6 : Hid (BoxG w6 w.heap.size 0 0) := (HX3.out.below HB.out).keeps hk6.keeps (fun e => (HX3.out.below HB.out).notVB _ (HRr.out.fo e) rfl)
        have HF6 : Hid (BoxG w6 w1.heap.size 0 0) := (HF3.out.below HB.out).keeps hk6.keeps (fun e => (HF3.out.below HB.out).notVB _ (HRr.out.fo e) rfl)
        clear HLy hr6 hk6 hg6 HRr
        obtain ⟨_, _, _, _, c4, _⟩ := HR6.out.2.1.cells
        have f4 := HR6.out.2.1.thawed 4
        obtain ⟨x0, x1, f0, f1⟩ := HX6.out.cells
        obtain ⟨y0, y1, _, _⟩ := HF6.out.cells
        have hv1 : v ≠ w.heap.size := by omega
        have hv2 : v ≠ w1.heap.size := by omega
        go_wp2_with fail
        have hk7 := Keeps.setCell w6 v 4 (.int .i64 ((S : Int) + 1))
        have hx7 : BoxG (w6.setCell ⟨v, 4, none⟩ (.int .i64 ((S : Int) + 1))) w.heap.size 0 0 := HX6.out.keeps hk7 (fun e => hv1 (show w.heap.size = v from e).symm)
        have hb7 : RBox (w6.setCell ⟨v, 4, none⟩ (.int .i64 ((S : Int) + 1))) v vr vd vp' L (S + 1) X := by
          have h1 : w6.heap[v]? = _ := HR6.out.2.1
          simp [RBox, World.setCell, Array.getElem?_modify, h1]
        obtain ⟨r7, _⟩ := HR6.out.box hk7 hb7
        have k7 : Kf v vp' ps' w6 vp' ps' (w6.setCell ⟨v, 4, none⟩ (.int .i64 ((S : Int) + 1))) := Kf.one hk7
        generalize w6.setCell ⟨v, 4, none⟩ (.int .i64 ((S : Int) + 1)) = W7 at *
        obtain ⟨d0, d1, _⟩ := (hx7.set 0 0).cells
        refine bodyPost_ret (v := .agg #[.int .i64 0, .int .u64 0]) (by simp [results, Tryz.results11, go_sem, d0, d1]) rfl ?_
        have hk8 := Keeps.two W7 w.heap.size (.int .i64 0) (.int .u64 0)
        exact ⟨0, false, HOf.out, rfl, fun h => absurd h (by decide), fun _ => ⟨vp', ps', r7.keeps hk8 hx7.notVB, (((HK3.out.trans (Kf.below HB.out)).trans HK6.out).trans k7).after hk8 (fun j hj e => by omega), HG6.out⟩⟩
end Go.Proofs.YtdkhhofgfbnmkaaGreat
/- The document's own machine with pages: its bytes, as they lie there. Own work. -/
namespace Go.Proofs.YtdkhhofgfbnmkaaGreat
open Go.RowKit Go.Maps Go.Proofs.YtdkhhofgfbnmkaaGreat.Sp Wk
def fB (M : Nat → Nat) (a i : Nat) : Nat → Nat := fun x => if x < i then M (a + x) else 0
theorem P8.step {w : World} {g n : Nat} {M : Nat → Nat} {a s : Nat} (h : P8 w g n (fB M a s)) : P8 (w.setCell ⟨g, s, none⟩ (.int .u8 ((M (a + s) : Nat) : Int))) g n (fB M a (s + 1)) := by
  refine (h.set s (M (a + s))).congr fun i _ => ?_
  unfold fB
  by_cases e : i = s
  · rw [if_pos e, if_pos (by omega), e]
  · rw [if_neg e]
    by_cases e2 : i < s
    · rw [if_pos e2, if_pos (by omega)]
    · rw [if_neg e2, if_neg (by omega)]
set_option maxRecDepth 100000 in
set_option maxHeartbeats 4000000 in
theorem rbytes_at {w : World} {base v : Nat} {vr vd vp : Value} {ps : List (Int × Nat)} {M : Nat → Nat} {L S X a n : Nat} (h : RM w base v vr vd vp ps M L S X) (hn1 : 1 ≤ n) (hn : n ≤ 8) (ha : a + n ≤ 4294967400) :
    Calls Tryz.prog 93 #[.pointer (some ⟨v, 0, none⟩), .int .u64 (a : Int), .int .i64 (n : Int)] w fun e w' => e = .returned (.slice (some ⟨w.heap.size, 0, none⟩) n n) ∧ P8 w' w.heap.size n (fun i => M (a + i)) ∧ Below w.heap.size w w' := by
  obtain ⟨i, hi, hz0, hz1, hz2⟩ := info_parts info_byte
  have HR := Lib.hid h
  have hvl := h.2.1.lt
  clear h
  go_enter Tryz.func93, Tryz.ntmps93
  go_wp2_with (at_make; refine wpList_make_full _ rfl _ _ 50 rfl w.heap.size 5 i (.int .u8 0) 1 Tryz.underlying50 hi hz0 hz1 _ _ _ _ n rfl rfl (by omega) (by omega) (by rw [hz2]; omega) (by simp only [maxLen]; omega) (by simp) ?_)
  intro w1 hown hgrow
  have HB1 : Hid (Below w.heap.size w w1) := (Below.refl _ _).grown hgrow (by simp) (by simp)
  have HP1 : Hid (P8 w1 w.heap.size n (fB M a 0)) := by
    rcases hown.2 with ⟨hc, _⟩ | ⟨g', cap, cur, hv, _, hg, _, _, hs, ht⟩
    · cases hc
    · cases hv
      refine ⟨cur, hg, fun k hk => ?_⟩
      have e : (fB M a 0 k : Nat) = 0 := rfl
      rw [e, ← Array.getElem?_toList]
      have h0 : (cur.toList.take (n * 1))[k]? = some (.int .u8 ((0 : Nat) : Int)) := by
        rw [ht]
        simp [madeCells, hk, Nat.mod_one]
      rw [List.getElem?_take_of_lt (by omega)] at h0
      exact h0
  clear hown hgrow hi hz0 hz1 hz2
  go_wp2_with fail
  go_loopw [8] (fun iv wr => ∃ i : Nat, i ≤ n ∧ iv = .int .i64 (i : Int) ∧ Hid (P8 wr w.heap.size n (fB M a i) ∧ Below w.heap.size w wr)) (fun iv _ => n - (intOf iv).toNat)
  case atStart => exact ⟨0, Nat.zero_le _, rfl, HP1.out, HB1.out⟩
  case round =>
    obtain ⟨i, hi, rfl, HP⟩ := hrel
    by_cases hlt : i < n
    · have HRw : Hid (RM wr base v vr vd vp ps M L S X) := HR.out.below HP.out.2
      have qi : (i : Int) < (n : Int) := by omega
      have hai : (a : Int) + (i : Int) ≤ 18446744073709551615 := by omega
      obtain ⟨fr, hfr, hfr2⟩ : ∃ fr : Nat, ((a : Int) + (i : Int)) % 4096 = (fr : Int) ∧ fr < 4096 := ⟨(a + i) % 4096, by omega, by omega⟩
      obtain ⟨pg, hpg⟩ : ∃ pg : Nat, ((a : Int) + (i : Int)) / 4096 = (pg : Int) := ⟨(a + i) / 4096, by omega⟩
      have hw1 : IntKind.u64.wrap ((a : Int) + (i : Int)) = (a : Int) + (i : Int) := by rw [IntKind.wrap_u64]; omega
      have HF : Hid (Calls Tryz.prog 57 #[.pointer (some ⟨v, 0, none⟩), .int .u64 (pg : Int)] wr fun e w' => ∃ j : Int, e = .returned (.int .i64 j) ∧ Hid ((j = -1 ∧ ∀ x ∈ ps, x.1 ≠ (pg : Int)) ∨ ∃ i : Nat, j = (i : Int) ∧ ∃ hi : i < ps.length, (ps[i]'hi).1 = (pg : Int)) ∧ wr = w') := rfind_at HRw.out.rs (by have := HRw.out.pn.len; omega)
      obtain ⟨k, hk1, hk2, hk3, hkk⟩ : ∃ k : Nat, 1 ≤ k ∧ k ≤ n - i ∧ k + fr ≤ 4096 ∧ Hid ((decide ((k : Int) < 4096 - (fr : Int)) = true ∧ (n : Int) - (i : Int) = (k : Int)) ∨ (decide ((n : Int) - (i : Int) < (k : Int)) = false ∧ (4096 : Int) - (fr : Int) = (k : Int))) := by
        by_cases hc : n - i < 4096 - fr
        · exact ⟨n - i, by omega, by omega, by omega, .inl ⟨by simp; omega, by omega⟩⟩
        · exact ⟨4096 - fr, by omega, by omega, by omega, .inr ⟨by simp; omega, by omega⟩⟩
      go_upto_if 30 with fail
      go_cut [10] (fun s wx => s = .int .i64 (k : Int) ∧ wx = wr)
      case first =>
        rcases hkk.out with ⟨hci, hk⟩ | ⟨hci, hk⟩
        · have hcp : (n : Int) - (i : Int) < 4096 - (fr : Int) := by rw [hk]; exact of_decide_eq_true hci
          clear hci
          rw [hk] at hcp
          go_wp2_with fail
          go_meet
          exact ⟨rfl, rfl⟩
        · have hcp : ¬ (n : Int) - (i : Int) < (k : Int) := of_decide_eq_false hci
          clear hci
          go_wp2_with fail
          go_meet
          exact ⟨rfl, rfl⟩
      case rest =>
        obtain ⟨rfl, rfl⟩ := hcut
        clear hkk
        go_wp2_with fail
        refine HF.out.mono ?_
        rintro e w1 ⟨j, rfl, hj, rfl⟩
        clear HF
        rcases hj.out with ⟨rfl, hjx⟩ | ⟨jj, rfl, hjj, hjp⟩
        · clear hj
          have HZ : Hid (P8 wc w.heap.size n (fB M a (i + k))) := HP.out.1.congr fun x _ => by
            unfold fB
            by_cases e1 : x < i
            · rw [if_pos e1, if_pos (by omega)]
            · rw [if_neg e1]
              by_cases e2 : x < i + k
              · rw [if_pos e2, HRw.out.2.2.2.2.2.2.2 _ fun y hy => ?_]
                have := hjx y hy
                intro e
                exact this (e.trans (by omega))
              · rw [if_neg e2]
          clear hjx
          go_wp2_with fail
          refine wp_loop_rounds 1 ?_
          rw [rounds_succ]
          go_wp2_with fail
          refine ⟨⟨i + k, by omega, by go_num, HZ.out, HP.out.2⟩, by simp [intOf]; omega⟩
        · clear hj
          have HJ : Hid (∃ hi : jj < ps.length, (ps[jj]'hi).1 = (pg : Int)) := ⟨hjj, hjp⟩
          clear hjj hjp
          have jj0 : (0 : Int) ≤ (jj : Int) := Int.natCast_nonneg _
          go_wp2_with fail
          go_loopw [12] (fun qv wq => ∃ q : Nat, q ≤ k ∧ qv = .int .i64 (q : Int) ∧ Hid (P8 wq w.heap.size n (fB M a (i + q)) ∧ Below w.heap.size w wq)) (fun qv _ => k - (intOf qv).toNat)
          case atStart => exact ⟨0, Nat.zero_le _, rfl, HP.out⟩
          case round =>
            clear HP HRw
            obtain ⟨q, hq, rfl, HQ⟩ := hrel
            by_cases hqk : q < k
            · have qki : (q : Int) < (k : Int) := by omega
              have HRq : Hid (RM wr base v vr vd vp ps M L S X) := HR.out.below HQ.out.2
              obtain ⟨c0, c1, c2, _⟩ := HRq.out.2.1.cells
              obtain ⟨a1, cc, hvp, hc1, hc2, _⟩ := HRq.out.2.2.1.form
              unfold maxLen at hc2
              obtain ⟨n1, hn1'⟩ : ∃ n1, n1 = ps.length := ⟨_, rfl⟩
              have HN1 : Hid (n1 = ps.length) := hn1'
              rw [← hn1'] at hvp hc1
              have hjn : jj < n1 := by rw [HN1.out]; exact HJ.out.1
              subst hvp
              clear hn1'
              obtain ⟨g, rfl, d0, d1⟩ := HRq.out.2.2.1.cell jj HJ.out.1
              obtain ⟨X0, hX0⟩ : ∃ X0, X0 = ps[jj]'HJ.out.1 := ⟨_, rfl⟩
              rw [← hX0] at d0 d1
              have HXM : Hid (X0 ∈ ps) := hX0 ▸ List.getElem_mem HJ.out.1
              have HX1 : Hid (X0.1 = (pg : Int)) := hX0 ▸ HJ.out.2
              clear hX0
              obtain ⟨_, hxu⟩ := HRq.out.2.2.2.1 X0 HXM.out
              generalize X0.2 = x at d1 hxu
              have HXU := Lib.hid hxu
              clear hxu
              obtain ⟨s, hs, hs2⟩ : ∃ s : Nat, (i : Int) + (q : Int) = (s : Int) ∧ s < n := ⟨i + q, by omega, by omega⟩
              obtain ⟨t, ht, ht2⟩ : ∃ t : Nat, (fr : Int) + (q : Int) = (t : Int) ∧ t < 4096 := ⟨fr + q, by omega, by omega⟩
              have hcy := HXU.out.cell t ht2
              rw [show X0.1.toNat * 4096 + t = a + s by rw [HX1.out]; omega] at hcy
              obtain ⟨y, hcz⟩ : ∃ y : Nat, wr.cell? ⟨w.heap.size, s, none⟩ = some (.int .u8 (y : Int)) := ⟨_, HQ.out.1.cell s hs2⟩
              have hfz := HQ.out.1.thawed s
              have HW : Hid (P8 (wr.setCell ⟨w.heap.size, s, none⟩ (.int .u8 ((M (a + s) : Nat) : Int))) w.heap.size n (fB M a (i + (q + 1))) ∧ Below w.heap.size w (wr.setCell ⟨w.heap.size, s, none⟩ (.int .u8 ((M (a + s) : Nat) : Int)))) := by
                rw [show i + (q + 1) = s + 1 by omega]
                exact ⟨P8.step (by rw [show s = i + q by omega]; exact HQ.out.1), HQ.out.2.setCell (Nat.le_refl _) _⟩
              generalize M (a + s) = z at hcy HW
              go_wp2_with fail
              exact ⟨⟨q + 1, by omega, by go_num, HW⟩, by simp [intOf]; omega⟩
            · obtain rfl : q = k := by omega
              go_wp2_with fail
              exact ⟨⟨i + q, by omega, by go_num, HQ.out⟩, by simp [intOf]; omega⟩
    · obtain rfl : i = n := by omega
      go_wp2_with fail
      go_ret
      exact ⟨rfl, HP.out.1.congr fun x hx => by unfold fB; rw [if_pos hx], HP.out.2⟩
end Go.Proofs.YtdkhhofgfbnmkaaGreat
