import Derived.Test.YtfnikcjcgneboaaGreatPk30
/- The document's own machine with pages: its lay, and what lies there then. Own work. -/
namespace Go.Proofs.YtfnikcjcgneboaaGreat
open Go.RowKit Go.Maps Go.Proofs.YtfnikcjcgneboaaGreat.Sp Wk
theorem putAt_step (M : Nat → Nat) (a : Nat) (xs : List Nat) (s : Nat) (h : s < xs.length) : putAt (putAt M a (xs.take s)) (a + s) [xs.getD s 0] = putAt M a (xs.take (s + 1)) := by
  have e : (xs.take s).length = s := by rw [List.length_take]; omega
  have := putAt_append M a (xs.take s) [xs.getD s 0]
  rw [e] at this
  rw [this, List.take_add_one, List.getElem?_eq_getElem h, List.getD_eq_getElem?_getD, List.getElem?_eq_getElem h]
  rfl
/-- what lay keeps: s bytes are laid -/
def LayM (w0 w : World) (base v : Nat) (vr vd : Value) (L S X gb : Nat) (xs : List Nat) (M : Nat → Nat) (a s : Nat) (vp : Value) (ps : List (Int × Nat)) : Prop := RM w base v vr vd vp ps (putAt M a (xs.take s)) L S X ∧ P8 w gb xs.length (fun i => xs.getD i 0) ∧ Kv base w0 w ∧ (∀ x ∈ ps, x.2 ≠ gb) ∧ base ≤ w.heap.size
theorem LayM.write {w0 w : World} {base v : Nat} {vr vd vp : Value} {L S X gb a s : Nat} {xs : List Nat} {M : Nat → Nat} {ps : List (Int × Nat)} (h : LayM w0 w base v vr vd L S X gb xs M a s vp ps) {x : Int × Nat} (hx : x ∈ ps) {t : Nat} (ht : t < 4096) (hs : s < xs.length) (hz : ∀ z ∈ xs, z < 256) (he : x.1.toNat * 4096 + t = a + s) : LayM w0 (w.setCell ⟨x.2, t, none⟩ (.int .u8 ((xs.getD s 0 : Nat) : Int))) base v vr vd L S X gb xs M a (s + 1) vp ps := by
  have hzs : xs.getD s 0 < 256 := by
    rw [List.getD_eq_getElem?_getD, List.getElem?_eq_getElem hs]
    exact hz _ (List.getElem_mem hs)
  have h1 := h.1.write hx ht hzs
  rw [he, putAt_step M a xs s hs] at h1
  refine ⟨h1, h.2.1.keeps (Keeps.setCell w x.2 t _) (fun e => h.2.2.2.1 x hx e.symm), h.2.2.1.trans (Kv.of (Keeps.setCell w x.2 t _) (fun k _ e => ?_)), h.2.2.2.1, Nat.le_trans h.2.2.2.2 (Keeps.setCell w x.2 t (.int .u8 ((xs.getD s 0 : Nat) : Int))).size⟩
  have e : k = x.2 := e
  subst e
  obtain ⟨hb, cur, hc, _⟩ := h.1.2.2.2.1 x hx
  exact ⟨hb, cur, _, _, hc, .inr (.inr rfl)⟩
set_option maxRecDepth 100000 in
set_option maxHeartbeats 2000000 in
theorem rlay_at {w : World} {base v : Nat} {vr vd vp : Value} {ps : List (Int × Nat)} {M : Nat → Nat} {L S X a n gb cb : Nat} {xs : List Nat} (h : RM w base v vr vd vp ps M L S X) (hb : base ≤ w.heap.size) (hB : P8 w gb xs.length (fun i => xs.getD i 0)) (hnb : ∀ x ∈ ps, x.2 ≠ gb) (hxl : xs.length = n) (hxs : ∀ z ∈ xs, z < 256) (hn : n ≤ 8) (hcb : n ≤ cb) (ha : a + n ≤ 4294967400) :
    Calls Tryz.prog 38 #[.pointer (some ⟨v, 0, none⟩), .int .u64 (a : Int), .slice (some ⟨gb, 0, none⟩) n cb, .int .i64 (n : Int), .int .u8 0] w fun e w' => e = .returned (.tuple #[]) ∧ ∃ vp' ps', RM w' base v vr vd vp' ps' (putAt M a xs) L S X ∧ Kv base w w' := by
  have HI0 : Hid (∃ vp' ps', LayM w w base v vr vd L S X gb xs M a 0 vp' ps') := ⟨vp, ps, by rw [List.take_zero, putAt_nil]; exact h, hB, Kv.refl _ _, hnb, hb⟩
  have HXl := Lib.hid hxl
  have HXs := Lib.hid hxs
  have hgb := hB.lt
  clear h hB hb hnb hxl hxs
  have hmk : ∀ W : World, (Instr.makeSlice 50 (.int .i64 4096) (.int .i64 4096)).run Tryz.prog W = .ok (.slice (some ⟨W.heap.size, 0, none⟩) 4096 4096) (W.alloc (.cells zc 5)) := make_page
  go_enter Tryz.func38, Tryz.ntmps38
  go_wp2_with fail
  go_loopw [10] (fun iv wr => ∃ i : Nat, i ≤ n ∧ iv = .int .i64 (i : Int) ∧ Hid (∃ vp' ps', LayM w wr base v vr vd L S X gb xs M a i vp' ps')) (fun iv _ => n - (intOf iv).toNat)
  case atStart => exact ⟨0, Nat.zero_le _, rfl, HI0⟩
  case round =>
    obtain ⟨i, hi, rfl, HI⟩ := hrel
    by_cases hlt : i < n
    · obtain ⟨vp1, ps1, HI1⟩ := HI.out
      have HL := Lib.hid HI1
      clear HI1 HI HI0
      have qi : (i : Int) < (n : Int) := by omega
      have hai : (a : Int) + (i : Int) ≤ 18446744073709551615 := by omega
      obtain ⟨fr, hfr, hfr2⟩ : ∃ fr : Nat, ((a : Int) + (i : Int)) % 4096 = (fr : Int) ∧ fr < 4096 := ⟨(a + i) % 4096, by omega, by omega⟩
      obtain ⟨pg, hpg⟩ : ∃ pg : Nat, ((a : Int) + (i : Int)) / 4096 = (pg : Int) := ⟨(a + i) / 4096, by omega⟩
      have hw1 : IntKind.u64.wrap ((a : Int) + (i : Int)) = (a : Int) + (i : Int) := by rw [IntKind.wrap_u64]; omega
      have HF : Hid (Calls Tryz.prog 65 #[.pointer (some ⟨v, 0, none⟩), .int .u64 (pg : Int)] wr fun e w' => ∃ j : Int, e = .returned (.int .i64 j) ∧ Hid ((j = -1 ∧ ∀ x ∈ ps1, x.1 ≠ (pg : Int)) ∨ ∃ i : Nat, j = (i : Int) ∧ ∃ hi : i < ps1.length, (ps1[i]'hi).1 = (pg : Int)) ∧ wr = w') := rfind_at HL.out.1.rs (by have := HL.out.1.pn.len; omega)
      obtain ⟨k, hk1, hk2, hk3, hkk⟩ : ∃ k : Nat, 1 ≤ k ∧ k ≤ n - i ∧ k + fr ≤ 4096 ∧ Hid ((decide ((k : Int) < 4096 - (fr : Int)) = true ∧ (n : Int) - (i : Int) = (k : Int)) ∨ (decide ((n : Int) - (i : Int) < (k : Int)) = false ∧ (4096 : Int) - (fr : Int) = (k : Int))) := by
        by_cases hc : n - i < 4096 - fr
        · exact ⟨n - i, by omega, by omega, by omega, .inl ⟨by simp; omega, by omega⟩⟩
        · exact ⟨4096 - fr, by omega, by omega, by omega, .inr ⟨by simp; omega, by omega⟩⟩
      go_upto_if 31 with fail
      go_cut [12] (fun s wx => s = .int .i64 (k : Int) ∧ wx = wr)
      case first =>
        rcases hkk.out with ⟨hci, hk⟩ | ⟨hci, hk⟩
        · have hcp : (n : Int) - (i : Int) < 4096 - (fr : Int) := by rw [hk]; exact of_decide_eq_true hci
          clear hci
          rw [hk] at hcp
          go_wp2_with fail
          go_meet
          exact ⟨rfl, rfl⟩
        · have hcp : ¬ (n : Int) - (i : Int) < (k : Int) := of_decide_eq_false hci
          clear hci
          go_wp2_with fail
          go_meet
          exact ⟨rfl, rfl⟩
      case rest =>
        obtain ⟨rfl, rfl⟩ := hcut
        clear hkk
        go_wp2_with fail
        refine HF.out.mono ?_
        rintro e w1 ⟨j, rfl, hj, rfl⟩
        clear HF
        go_upto_region 7 with fail
        go_cut [51] (fun s wx => s = .bool (decide (j < 0)) ∧ wx = wc)
        case first =>
          rcases hj.out with ⟨rfl, hjx⟩ | ⟨j0, rfl, hj0, hj1⟩
          · go_wp2_with fail
            go_meet
            exact ⟨rfl, rfl⟩
          · have hjn : decide ((j0 : Int) < 0) = false := by simp
            go_wp2_with fail
            go_meet
            exact ⟨by go_num, rfl⟩
        case rest =>
          obtain ⟨rfl, hwc⟩ := hcut
          subst hwc
          go_upto_if 51 with fail
          go_cut [13] (fun s wx => ∃ (jj : Nat) (vp2 : Value) (ps2 : List (Int × Nat)), s = .int .i64 (jj : Int) ∧ Hid (∃ hi : jj < ps2.length, (ps2[jj]'hi).1 = (pg : Int)) ∧ Hid (LayM w wx base v vr vd L S X gb xs M a i vp2 ps2))
          case first =>
            rcases hj.out with ⟨rfl, hjx⟩ | ⟨j0, rfl, hj0, hj1⟩
            · clear hj
              have HJX := Lib.hid hjx
              clear hjx
              obtain ⟨c0, c1, c2, _⟩ := HL.out.1.2.1.cells
              have hvl := HL.out.1.2.1.lt
              have hv1 : v ≠ wc.heap.size := by omega
              have hv2 : v ≠ wc.heap.size + 1 := by omega
              obtain ⟨a1, cc, hvp, hc1, hc2, _⟩ := HL.out.1.2.2.1.form
              unfold maxLen at hc2
              obtain ⟨n1, hn1⟩ : ∃ n1, n1 = ps1.length := ⟨_, rfl⟩
              have HN1 : Hid (n1 = ps1.length) := hn1
              rw [← hn1] at hvp hc1
              have hn1l : n1 ≤ 2097153 := by rw [HN1.out]; exact HL.out.1.pn.len
              subst hvp
              clear hn1
              have HO : Hid (OwnP (W2 wc (pg : Int)) base (.slice a1 n1 cc) ps1) := HL.out.1.2.2.1.keeps (W2.keeps wc (pg : Int)) (fun _ _ e => e)
              have HC : Hid ((W2 wc (pg : Int)).cell? ⟨wc.heap.size + 1, 0, none⟩ = some (.int .u64 (pg : Int)) ∧ (W2 wc (pg : Int)).cell? ⟨wc.heap.size + 1, 1, none⟩ = some (.slice (some ⟨wc.heap.size, 0, none⟩) 4096 4096)) := W2.cells wc (pg : Int)
              have HA : Hid (∀ v2 w2, OwnP w2 base v2 (ps1 ++ [((pg : Int), wc.heap.size)]) → (W2 wc (pg : Int)).grownBy w2 (Value.slice a1 n1 cc).ownBlock → LayM w (w2.setCell ⟨v, 2, none⟩ v2) base v vr vd L S X gb xs M a i v2 (ps1 ++ [((pg : Int), wc.heap.size)]) ∧ w2.cell? ⟨v, 2, none⟩ = some (.slice a1 n1 cc) ∧ w2.frozen? ⟨v, 2, none⟩ = false) := fun v2 w2 ho hg => by
                obtain ⟨r1, r2, r3, r4, r5, r6⟩ := HL.out.1.app HL.out.2.2.2.2 pg (by omega) HJX.out ho hg
                refine ⟨⟨r1, r3 _ _ _ HL.out.2.1, HL.out.2.2.1.trans r2, fun x hx => ?_, r6⟩, r4, r5⟩
                rcases List.mem_append.1 hx with hx | hx
                · exact HL.out.2.2.2.1 x hx
                · rw [List.mem_singleton.1 hx]
                  have := HL.out.2.1.lt
                  show wc.heap.size ≠ gb
                  omega
              have HBs : Hid (base ≤ (W2 wc (pg : Int)).heap.size) := Nat.le_trans HL.out.2.2.2.2 (W2.keeps wc (pg : Int)).size
              have hw0 : IntKind.u64.wrap (i : Int) = (i : Int) := by rw [IntKind.wrap_u64]; omega
              have hw2 : IntKind.u64.wrap (((a : Int) + (i : Int)).tdiv 4096) = (pg : Int) := by rw [Int.tdiv_eq_ediv_of_nonneg (by omega), hpg, IntKind.wrap_u64]; omega
              have HLn : Hid (ps1.length ≤ 1099511627776) := by show _ ≤ _; rw [← HN1.out]; omega
              go_wp2_with fail
              go_region_law (refine step_appP (base := base) (v := .slice a1 n1 cc) (ps := ps1) (x := ((pg : Int), wc.heap.size)) (by kernel_rfl) (.tmp 61) (.tmp 69) (by rfl) (by rfl) (by exact HO.out) (by rfl) (by exact HC.out.1) (by exact HC.out.2) HLn.out (by exact HBs.out) ?_; intro va vn vc w2 ho hg; obtain ⟨hl2, hc2, hf2⟩ := HA.out _ w2 ho hg; have HL2 := Lib.hid hl2; clear hl2 ho hg)
              all_goals
                go_wp2_with fail
                go_meet
                exact ⟨n1, _, _, rfl, ⟨by rw [HN1.out, List.length_append]; exact Nat.lt_succ_self _, by simp [HN1.out]⟩, HL2⟩
            · clear hj
              have HJ : Hid (∃ hi : j0 < ps1.length, (ps1[j0]'hi).1 = (pg : Int)) := ⟨hj0, hj1⟩
              clear hj0 hj1
              have HL2 : Hid (LayM w wc base v vr vd L S X gb xs M a i vp1 ps1) := HL.out
              go_wp2_with fail
              go_meet
              exact ⟨j0, _, _, rfl, HJ, HL2⟩
          case rest =>
            obtain ⟨jj, vp2, ps2, rfl, HJ, HL2⟩ := hcut
            clear hj HL
            have jj0 : (0 : Int) ≤ (jj : Int) := Int.natCast_nonneg _
            go_wp2_with fail
            go_loopw [14] (fun qv wq => ∃ q : Nat, q ≤ k ∧ qv = .int .i64 (q : Int) ∧ Hid (LayM w wq base v vr vd L S X gb xs M a (i + q) vp2 ps2)) (fun qv _ => k - (intOf qv).toNat)
            case atStart => exact ⟨0, Nat.zero_le _, rfl, HL2⟩
            case round =>
              obtain ⟨q, hq, rfl, HQ⟩ := hrel
              by_cases hqk : q < k
              · have qki : (q : Int) < (k : Int) := by omega
                obtain ⟨c0, c1, c2, _⟩ := HQ.out.1.2.1.cells
                obtain ⟨a1, cc, hvp, hc1, hc2, _⟩ := HQ.out.1.2.2.1.form
                unfold maxLen at hc2
                obtain ⟨n1, hn1⟩ : ∃ n1, n1 = ps2.length := ⟨_, rfl⟩
                have HN1 : Hid (n1 = ps2.length) := hn1
                rw [← hn1] at hvp hc1
                have hjn : jj < n1 := by rw [HN1.out]; exact HJ.out.1
                subst hvp
                clear hn1
                obtain ⟨g, rfl, d0, d1⟩ := HQ.out.1.2.2.1.cell jj HJ.out.1
                obtain ⟨X0, hX0⟩ : ∃ X0, X0 = ps2[jj]'HJ.out.1 := ⟨_, rfl⟩
                rw [← hX0] at d0 d1
                have HXM : Hid (X0 ∈ ps2) := hX0 ▸ List.getElem_mem HJ.out.1
                have HX1 : Hid (X0.1 = (pg : Int)) := hX0 ▸ HJ.out.2
                clear hX0
                obtain ⟨_, hxu⟩ := HQ.out.1.2.2.2.1 X0 HXM.out
                have HXU := Lib.hid hxu
                obtain ⟨x, hx⟩ : ∃ x, x = X0.2 := ⟨_, rfl⟩
                have HX2 : Hid (x = X0.2) := hx
                rw [← hx] at d1 HXU
                clear hx hxu
                obtain ⟨s, hs, hs2⟩ : ∃ s : Nat, (i : Int) + (q : Int) = (s : Int) ∧ s < n := ⟨i + q, by omega, by omega⟩
                obtain ⟨t, ht, ht2⟩ : ∃ t : Nat, (fr : Int) + (q : Int) = (t : Int) ∧ t < 4096 := ⟨fr + q, by omega, by omega⟩
                have hcz := HQ.out.2.1.cell s (by rw [HXl.out]; exact hs2)
                obtain ⟨y, hcy⟩ : ∃ y : Nat, wr.cell? ⟨x, t, none⟩ = some (.int .u8 (y : Int)) := ⟨_, HXU.out.cell t ht2⟩
                have hfz := HXU.out.thawed t
                have HW : Hid (LayM w (wr.setCell ⟨x, t, none⟩ (.int .u8 ((xs.getD s 0 : Nat) : Int))) base v vr vd L S X gb xs M a (i + (q + 1)) (.slice (some ⟨g, 0, none⟩) n1 cc) ps2) := by
                  rw [HX2.out, show i + (q + 1) = s + 1 by omega]
                  exact LayM.write (by rw [show s = i + q by omega]; exact HQ.out) HXM.out ht2 (by rw [HXl.out]; exact hs2) HXs.out (by rw [HX1.out]; omega)
                generalize xs.getD s 0 = z at hcz HW
                go_wp2_with fail
                exact ⟨⟨q + 1, by omega, by go_num, HW⟩, by simp [intOf]; omega⟩
              · go_wp2_with fail
                refine ⟨⟨i + k, by omega, by go_num, ?_⟩, by simp [intOf]; omega⟩
                obtain rfl : q = k := by omega
                exact ⟨_, _, HQ.out⟩
    · obtain rfl : i = n := by omega
      go_wp2_with fail
      go_end0
      obtain ⟨vp1, ps1, h1⟩ := HI.out
      have h2 := h1.1
      rw [List.take_of_length_le (by rw [HXl.out]; exact Nat.le_refl _)] at h2
      exact ⟨rfl, vp1, ps1, h2, h1.2.2.1⟩
end Go.Proofs.YtfnikcjcgneboaaGreat
