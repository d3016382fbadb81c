import Derived.Test.YtdkhhofgfbnmkaaGreatPk28
import Derived.Test.YtdkhhofgfbnmkaaGreatPk43
import Derived.Test.YtdkhhofgfbnmkaaGreatPk30
import Derived.Test.YtdkhhofgfbnmkaaGreatPk31
/- The number that bytes are: walk's and the document's. Own work. -/
namespace Go.Proofs.YtdkhhofgfbnmkaaGreat
open Go.RowKit Go.Maps Go.Proofs.YtdkhhofgfbnmkaaGreat.Sp Wk Lv
theorem num8 (a b c d e f g h : Nat) : Pl.num 8 [a, b, c, d, e, f, g, h] = a + 256 * (b + 256 * (c + 256 * (d + 256 * (e + 256 * (f + 256 * (g + 256 * h)))))) := by
  simp [Pl.num, Pl.acc]
theorem take_sm {LL : List Sp} {M : Nat → Nat} {t v k : Nat} {acc : Int} (hk : Wide k) : takeN LL M t v acc k = smB (fun j => M (ad LL M t v acc j).1) k := by
  unfold takeN
  rw [show upB LL M t v acc k = [if 0 < k then M (ad LL M t v acc 0).1 else 0, if 1 < k then M (ad LL M t v acc 1).1 else 0, if 2 < k then M (ad LL M t v acc 2).1 else 0, if 3 < k then M (ad LL M t v acc 3).1 else 0, if 4 < k then M (ad LL M t v acc 4).1 else 0, if 5 < k then M (ad LL M t v acc 5).1 else 0, if 6 < k then M (ad LL M t v acc 6).1 else 0, if 7 < k then M (ad LL M t v acc 7).1 else 0] from rfl, num8]
  rcases hk with rfl | rfl | rfl | rfl
  all_goals
    simp only [smB, Nat.reduceLT, if_true, if_false, Nat.lt_irrefl, Nat.reducePow, Nat.pow_zero, Nat.mul_one]
    omega
end Go.Proofs.YtdkhhofgfbnmkaaGreat
/- The document's own lay, and where its pages lie. Own work. -/
namespace Go.Proofs.YtdkhhofgfbnmkaaGreat
open Go.RowKit Go.Maps Go.Proofs.YtdkhhofgfbnmkaaGreat.Sp Wk
/-- what lay keeps: s bytes are laid -/
def LayG (Gp : Int → Prop) (w0 w : World) (base v : Nat) (vr vd : Value) (L S X gb : Nat) (xs : List Nat) (M : Nat → Nat) (a s : Nat) (vp : Value) (ps : List (Int × Nat)) : Prop := RM w base v vr vd vp ps (putAt M a (xs.take s)) L S X ∧ P8 w gb xs.length (fun i => xs.getD i 0) ∧ Kv base w0 w ∧ (∀ x ∈ ps, x.2 ≠ gb ∧ Gp x.1) ∧ base ≤ w.heap.size
theorem LayG.write {Gp : Int → Prop} {w0 w : World} {base v : Nat} {vr vd vp : Value} {L S X gb a s : Nat} {xs : List Nat} {M : Nat → Nat} {ps : List (Int × Nat)} (h : LayG Gp w0 w base v vr vd L S X gb xs M a s vp ps) {x : Int × Nat} (hx : x ∈ ps) {t : Nat} (ht : t < 4096) (hs : s < xs.length) (hz : ∀ z ∈ xs, z < 256) (he : x.1.toNat * 4096 + t = a + s) : LayG Gp w0 (w.setCell ⟨x.2, t, none⟩ (.int .u8 ((xs.getD s 0 : Nat) : Int))) base v vr vd L S X gb xs M a (s + 1) vp ps := by
  have hzs : xs.getD s 0 < 256 := by
    rw [List.getD_eq_getElem?_getD, List.getElem?_eq_getElem hs]
    exact hz _ (List.getElem_mem hs)
  have h1 := h.1.write hx ht hzs
  rw [he, putAt_step M a xs s hs] at h1
  refine ⟨h1, h.2.1.keeps (Keeps.setCell w x.2 t _) (fun e => (h.2.2.2.1 x hx).1 e.symm), h.2.2.1.trans (Kv.of (Keeps.setCell w x.2 t _) (fun k _ e => ?_)), h.2.2.2.1, Nat.le_trans h.2.2.2.2 (Keeps.setCell w x.2 t (.int .u8 ((xs.getD s 0 : Nat) : Int))).size⟩
  have e : k = x.2 := e
  subst e
  obtain ⟨hb, cur, hc, _⟩ := h.1.2.2.2.1 x hx
  exact ⟨hb, cur, _, _, hc, .inr (.inr rfl)⟩
set_option maxRecDepth 100000 in
set_option maxHeartbeats 2000000 in
theorem rlay_g {Gp : Int → Prop} {w : World} {base v : Nat} {vr vd vp : Value} {ps : List (Int × Nat)} {M : Nat → Nat} {L S X a n gb cb : Nat} {xs : List Nat} (h : RM w base v vr vd vp ps M L S X) (hb : base ≤ w.heap.size) (hB : P8 w gb xs.length (fun i => xs.getD i 0)) (hnb : ∀ x ∈ ps, x.2 ≠ gb) (hxl : xs.length = n) (hxs : ∀ z ∈ xs, z < 256) (hn : n ≤ 8) (hcb : n ≤ cb) (ha : a + n ≤ 4294967400) (hgp : ∀ x ∈ ps, Gp x.1) (hgn : ∀ i, i < n → Gp (((a : Int) + (i : Int)) / 4096)) :
    Calls Tryz.prog 34 #[.pointer (some ⟨v, 0, none⟩), .int .u64 (a : Int), .slice (some ⟨gb, 0, none⟩) n cb, .int .i64 (n : Int), .int .u8 0] w fun e w' => e = .returned (.tuple #[]) ∧ ∃ vp' ps', RM w' base v vr vd vp' ps' (putAt M a xs) L S X ∧ (∀ x ∈ ps', Gp x.1) ∧ Kv base w w' := by
  have HI0 : Hid (∃ vp' ps', LayG Gp w w base v vr vd L S X gb xs M a 0 vp' ps') := ⟨vp, ps, by rw [List.take_zero, putAt_nil]; exact h, hB, Kv.refl _ _, fun x hx => ⟨hnb x hx, hgp x hx⟩, hb⟩
  have HXl := Lib.hid hxl
  have HXs := Lib.hid hxs
  have HGn := Lib.hid hgn
  have hgb := hB.lt
  clear h hB hb hnb hxl hxs hgp hgn
  have hmk : ∀ W : World, (Instr.makeSlice 50 (.int .i64 4096) (.int .i64 4096)).run Tryz.prog W = .ok (.slice (some ⟨W.heap.size, 0, none⟩) 4096 4096) (W.alloc (.cells zc 5)) := make_page
  go_enter Tryz.func34, Tryz.ntmps34
  go_wp2_with fail
  go_loopw [10] (fun iv wr => ∃ i : Nat, i ≤ n ∧ iv = .int .i64 (i : Int) ∧ Hid (∃ vp' ps', LayG Gp w wr base v vr vd L S X gb xs M a i vp' ps')) (fun iv _ => n - (intOf iv).toNat)
  case atStart => exact ⟨0, Nat.zero_le _, rfl, HI0⟩
  case round =>
    obtain ⟨i, hi, rfl, HI⟩ := hrel
    by_cases hlt : i < n
    · obtain ⟨vp1, ps1, HI1⟩ := HI.out
      have HL := Lib.hid HI1
      clear HI1 HI HI0
      have qi : (i : Int) < (n : Int) := by omega
      have hai : (a : Int) + (i : Int) ≤ 18446744073709551615 := by omega
      obtain ⟨fr, hfr, hfr2⟩ : ∃ fr : Nat, ((a : Int) + (i : Int)) % 4096 = (fr : Int) ∧ fr < 4096 := ⟨(a + i) % 4096, by omega, by omega⟩
      obtain ⟨pg, hpg⟩ : ∃ pg : Nat, ((a : Int) + (i : Int)) / 4096 = (pg : Int) := ⟨(a + i) / 4096, by omega⟩
      have hw1 : IntKind.u64.wrap ((a : Int) + (i : Int)) = (a : Int) + (i : Int) := by rw [IntKind.wrap_u64]; omega
      have HF : Hid (Calls Tryz.prog 57 #[.pointer (some ⟨v, 0, none⟩), .int .u64 (pg : Int)] wr fun e w' => ∃ j : Int, e = .returned (.int .i64 j) ∧ Hid ((j = -1 ∧ ∀ x ∈ ps1, x.1 ≠ (pg : Int)) ∨ ∃ i : Nat, j = (i : Int) ∧ ∃ hi : i < ps1.length, (ps1[i]'hi).1 = (pg : Int)) ∧ wr = w') := rfind_at HL.out.1.rs (by have := HL.out.1.pn.len; omega)
      obtain ⟨k, hk1, hk2, hk3, hkk⟩ : ∃ k : Nat, 1 ≤ k ∧ k ≤ n - i ∧ k + fr ≤ 4096 ∧ Hid ((decide ((k : Int) < 4096 - (fr : Int)) = true ∧ (n : Int) - (i : Int) = (k : Int)) ∨ (decide ((n : Int) - (i : Int) < (k : Int)) = false ∧ (4096 : Int) - (fr : Int) = (k : Int))) := by
        by_cases hc : n - i < 4096 - fr
        · exact ⟨n - i, by omega, by omega, by omega, .inl ⟨by simp; omega, by omega⟩⟩
        · exact ⟨4096 - fr, by omega, by omega, by omega, .inr ⟨by simp; omega, by omega⟩⟩
      go_upto_if 31 with fail
      go_cut [12] (fun s wx => s = .int .i64 (k : Int) ∧ wx = wr)
      case first =>
        rcases hkk.out with ⟨hci, hk⟩ | ⟨hci, hk⟩
        · have hcp : (n : Int) - (i : Int) < 4096 - (fr : Int) := by rw [hk]; exact of_decide_eq_true hci
          clear hci
          rw [hk] at hcp
          go_wp2_with fail
          go_meet
          exact ⟨rfl, rfl⟩
        · have hcp : ¬ (n : Int) - (i : Int) < (k : Int) := of_decide_eq_false hci
          clear hci
          go_wp2_with fail
          go_meet
          exact ⟨rfl, rfl⟩
      case rest =>
        obtain ⟨rfl, rfl⟩ := hcut
        clear hkk
        go_wp2_with fail
        refine HF.out.mono ?_
        rintro e w1 ⟨j, rfl, hj, rfl⟩
        clear HF
        go_upto_region 7 with fail
        go_cut [51] (fun s wx => s = .bool (decide (j < 0)) ∧ wx = wc)
        case first =>
          rcases hj.out with ⟨rfl, hjx⟩ | ⟨j0, rfl, hj0, hj1⟩
          · go_wp2_with fail
            go_meet
            exact ⟨rfl, rfl⟩
          · have hjn : decide ((j0 : Int) < 0) = false := by simp
            go_wp2_with fail
            go_meet
            exact ⟨by go_num, rfl⟩
        case rest =>
          obtain ⟨rfl, hwc⟩ := hcut
          subst hwc
          go_upto_if 51 with fail
          go_cut [13] (fun s wx => ∃ (jj : Nat) (vp2 : Value) (ps2 : List (Int × Nat)), s = .int .i64 (jj : Int) ∧ Hid (∃ hi : jj < ps2.length, (ps2[jj]'hi).1 = (pg : Int)) ∧ Hid (LayG Gp w wx base v vr vd L S X gb xs M a i vp2 ps2))
          case first =>
            rcases hj.out with ⟨rfl, hjx⟩ | ⟨j0, rfl, hj0, hj1⟩
            · clear hj
              have HJX := Lib.hid hjx
              clear hjx
              obtain ⟨c0, c1, c2, _⟩ := HL.out.1.2.1.cells
              have hvl := HL.out.1.2.1.lt
              have hv1 : v ≠ wc.heap.size := by omega
              have hv2 : v ≠ wc.heap.size + 1 := by omega
              obtain ⟨a1, cc, hvp, hc1, hc2, _⟩ := HL.out.1.2.2.1.form
              unfold maxLen at hc2
              obtain ⟨n1, hn1⟩ : ∃ n1, n1 = ps1.length := ⟨_, rfl⟩
              have HN1 : Hid (n1 = ps1.length) := hn1
              rw [← hn1] at hvp hc1
              have hn1l : n1 ≤ 2097153 := by rw [HN1.out]; exact HL.out.1.pn.len
              subst hvp
              clear hn1
              have HO : Hid (OwnP (W2 wc (pg : Int)) base (.slice a1 n1 cc) ps1) := HL.out.1.2.2.1.keeps (W2.keeps wc (pg : Int)) (fun _ _ e => e)
              have HC : Hid ((W2 wc (pg : Int)).cell? ⟨wc.heap.size + 1, 0, none⟩ = some (.int .u64 (pg : Int)) ∧ (W2 wc (pg : Int)).cell? ⟨wc.heap.size + 1, 1, none⟩ = some (.slice (some ⟨wc.heap.size, 0, none⟩) 4096 4096)) := W2.cells wc (pg : Int)
              have HA : Hid (∀ v2 w2, OwnP w2 base v2 (ps1 ++ [((pg : Int), wc.heap.size)]) → (W2 wc (pg : Int)).grownBy w2 (Value.slice a1 n1 cc).ownBlock → LayG Gp w (w2.setCell ⟨v, 2, none⟩ v2) base v vr vd L S X gb xs M a i v2 (ps1 ++ [((pg : Int), wc.heap.size)]) ∧ w2.cell? ⟨v, 2, none⟩ = some (.slice a1 n1 cc) ∧ w2.frozen? ⟨v, 2, none⟩ = false) := fun v2 w2 ho hg => by
                obtain ⟨r1, r2, r3, r4, r5, r6⟩ := HL.out.1.app HL.out.2.2.2.2 pg (by omega) HJX.out ho hg
                refine ⟨⟨r1, r3 _ _ _ HL.out.2.1, HL.out.2.2.1.trans r2, fun x hx => ?_, r6⟩, r4, r5⟩
                rcases List.mem_append.1 hx with hx | hx
                · exact HL.out.2.2.2.1 x hx
                · rw [List.mem_singleton.1 hx]
                  refine ⟨?_, ?_⟩
                  · have := HL.out.2.1.lt
                    show wc.heap.size ≠ gb
                    omega
                  · show Gp (pg : Int)
                    rw [← hpg]
                    exact HGn.out i hlt
              have HBs : Hid (base ≤ (W2 wc (pg : Int)).heap.size) := Nat.le_trans HL.out.2.2.2.2 (W2.keeps wc (pg : Int)).size
              have hw0 : IntKind.u64.wrap (i : Int) = (i : Int) := by rw [IntKind.wrap_u64]; omega
              have hw2 : IntKind.u64.wrap (((a : Int) + (i : Int)).tdiv 4096) = (pg : Int) := by rw [Int.tdiv_eq_ediv_of_nonneg (by omega), hpg, IntKind.wrap_u64]; omega
              have HLn : Hid (ps1.length ≤ 1099511627776) := by show _ ≤ _; rw [← HN1.out]; omega
              go_wp2_with fail
              go_region_law (refine step_appP (base := base) (v := .slice a1 n1 cc) (ps := ps1) (x := ((pg : Int), wc.heap.size)) (by kernel_rfl) (.tmp 61) (.tmp 69) (by rfl) (by rfl) (by exact HO.out) (by rfl) (by exact HC.out.1) (by exact HC.out.2) HLn.out (by exact HBs.out) ?_; intro va vn vc w2 ho hg; obtain ⟨hl2, hc2, hf2⟩ := HA.out _ w2 ho hg; have HL2 := Lib.hid hl2; clear hl2 ho hg)
              all_goals
                go_wp2_with fail
                go_meet
                exact ⟨n1, _, _, rfl, ⟨by rw [HN1.out, List.length_append]; exact Nat.lt_succ_self _, by simp [HN1.out]⟩, HL2⟩
            · clear hj
              have HJ : Hid (∃ hi : j0 < ps1.length, (ps1[j0]'hi).1 = (pg : Int)) := ⟨hj0, hj1⟩
              clear hj0 hj1
              have HL2 : Hid (LayG Gp w wc base v vr vd L S X gb xs M a i vp1 ps1) := HL.out
              go_wp2_with fail
              go_meet
              exact ⟨j0, _, _, rfl, HJ, HL2⟩
          case rest =>
            obtain ⟨jj, vp2, ps2, rfl, HJ, HL2⟩ := hcut
            clear hj HL
            have jj0 : (0 : Int) ≤ (jj : Int) := Int.natCast_nonneg _
            go_wp2_with fail
            go_loopw [14] (fun qv wq => ∃ q : Nat, q ≤ k ∧ qv = .int .i64 (q : Int) ∧ Hid (LayG Gp w wq base v vr vd L S X gb xs M a (i + q) vp2 ps2)) (fun qv _ => k - (intOf qv).toNat)
            case atStart => exact ⟨0, Nat.zero_le _, rfl, HL2⟩
            case round =>
              obtain ⟨q, hq, rfl, HQ⟩ := hrel
              by_cases hqk : q < k
              · have qki : (q : Int) < (k : Int) := by omega
                obtain ⟨c0, c1, c2, _⟩ := HQ.out.1.2.1.cells
                obtain ⟨a1, cc, hvp, hc1, hc2, _⟩ := HQ.out.1.2.2.1.form
                unfold maxLen at hc2
                obtain ⟨n1, hn1⟩ : ∃ n1, n1 = ps2.length := ⟨_, rfl⟩
                have HN1 : Hid (n1 = ps2.length) := hn1
                rw [← hn1] at hvp hc1
                have hjn : jj < n1 := by rw [HN1.out]; exact HJ.out.1
                subst hvp
                clear hn1
                obtain ⟨g, rfl, d0, d1⟩ := HQ.out.1.2.2.1.cell jj HJ.out.1
                obtain ⟨X0, hX0⟩ : ∃ X0, X0 = ps2[jj]'HJ.out.1 := ⟨_, rfl⟩
                rw [← hX0] at d0 d1
                have HXM : Hid (X0 ∈ ps2) := hX0 ▸ List.getElem_mem HJ.out.1
                have HX1 : Hid (X0.1 = (pg : Int)) := hX0 ▸ HJ.out.2
                clear hX0
                obtain ⟨_, hxu⟩ := HQ.out.1.2.2.2.1 X0 HXM.out
                have HXU := Lib.hid hxu
                obtain ⟨x, hx⟩ : ∃ x, x = X0.2 := ⟨_, rfl⟩
                have HX2 : Hid (x = X0.2) := hx
                rw [← hx] at d1 HXU
                clear hx hxu
                obtain ⟨s, hs, hs2⟩ : ∃ s : Nat, (i : Int) + (q : Int) = (s : Int) ∧ s < n := ⟨i + q, by omega, by omega⟩
                obtain ⟨t, ht, ht2⟩ : ∃ t : Nat, (fr : Int) + (q : Int) = (t : Int) ∧ t < 4096 := ⟨fr + q, by omega, by omega⟩
                have hcz := HQ.out.2.1.cell s (by rw [HXl.out]; exact hs2)
                obtain ⟨y, hcy⟩ : ∃ y : Nat, wr.cell? ⟨x, t, none⟩ = some (.int .u8 (y : Int)) := ⟨_, HXU.out.cell t ht2⟩
                have hfz := HXU.out.thawed t
                have HW : Hid (LayG Gp w (wr.setCell ⟨x, t, none⟩ (.int .u8 ((xs.getD s 0 : Nat) : Int))) base v vr vd L S X gb xs M a (i + (q + 1)) (.slice (some ⟨g, 0, none⟩) n1 cc) ps2) := by
                  rw [HX2.out, show i + (q + 1) = s + 1 by omega]
                  exact LayG.write (by rw [show s = i + q by omega]; exact HQ.out) HXM.out ht2 (by rw [HXl.out]; exact hs2) HXs.out (by rw [HX1.out]; omega)
                generalize xs.getD s 0 = z at hcz HW
                go_wp2_with fail
                exact ⟨⟨q + 1, by omega, by go_num, HW⟩, by simp [intOf]; omega⟩
              · go_wp2_with fail
                refine ⟨⟨i + k, by omega, by go_num, ?_⟩, by simp [intOf]; omega⟩
                obtain rfl : q = k := by omega
                exact ⟨_, _, HQ.out⟩
    · obtain rfl : i = n := by omega
      go_wp2_with fail
      go_end0
      obtain ⟨vp1, ps1, h1⟩ := HI.out
      have h2 := h1.1
      rw [List.take_of_length_le (by rw [HXl.out]; exact Nat.le_refl _)] at h2
      exact ⟨rfl, vp1, ps1, h2, fun x hx => (h1.2.2.2.1 x hx).2, h1.2.2.1⟩
end Go.Proofs.YtdkhhofgfbnmkaaGreat
/- The document's own Store, and where its pages lie. Own work. -/
namespace Go.Proofs.YtdkhhofgfbnmkaaGreat
open Go.RowKit Go.Maps Go.Proofs.YtdkhhofgfbnmkaaGreat.Sp Wk
/-- what the document's own Store does -/
def RStG (Gp : Int → Prop) (w : World) (base v : Nat) (vr vd vp : Value) (ps : List (Int × Nat)) (M : Nat → Nat) (LL : List Sp) (L S X a n val : Nat) (e : Ending) (w' : World) : Prop :=
  ∃ x b, OffR LL a n x b ∧ e = .returned (FaultV (if b then 30 else 0) x) ∧ Kv base w w' ∧ (b = true → RM w' base v vr vd vp ps M L S (X + 1)) ∧ (b = false → ∃ vp' ps', RM w' base v vr vd vp' ps' (putAt M a ((Pl.le 8 val).take n)) L (S + 1) X ∧ ∀ x ∈ ps', Gp x.1)
set_option maxRecDepth 100000 in
set_option maxHeartbeats 2000000 in
theorem rstore_g {Gp : Int → Prop} {w : World} {base v : Nat} {vr vd vp : Value} {ps : List (Int × Nat)} {M : Nat → Nat} {rs ds : List Sp} {L S X a n val : Nat} (h : RM w base v vr vd vp ps M L S X) (hw : Wide n) (hb : base ≤ w.heap.size) (hr : U64.SV w vr rs) (hd : U64.SV w vd ds) (hs : Sane (rs ++ ds)) (hll : rs.length + ds.length ≤ 64) (ha : a ≤ 18446744073709551615) (hX : X ≤ 4611686018427387904) (hS : S ≤ 4611686018427387904) (hgp : ∀ x ∈ ps, Gp x.1) (hgo : ∀ p : Int, On (rs ++ ds) p → Gp (p / 4096)) :
    Calls Tryz.prog 11 #[.pointer (some ⟨v, 0, none⟩), .int .u64 (a : Int), .int .i64 (n : Int), .int .u64 (val : Int)] w (RStG Gp w base v vr vd vp ps M (rs ++ ds) L S X a n val) := by
  have HR := Lib.hid h
  have HAc : Hid (∀ W, Below w.heap.size w W → Calls Tryz.prog 33 #[.pointer (some ⟨v, 0, none⟩), .int .u64 (a : Int), .int .i64 (n : Int)] W (RAsk W v vr vd vp (rs ++ ds) L S X a n)) := fun W hW => raccess_any (h.2.1.below hW) (hr.below hW (Nat.le_refl _)) (hd.below hW (Nat.le_refl _)) hs hll ha (by rcases hw with h | h | h | h <;> omega) hX
  have HS := Lib.hid hs
  have HGp := Lib.hid hgp
  have HGo := Lib.hid hgo
  have HRt : Hid (∀ W, Calls Tryz.prog 32 #[.int .i64 (n : Int)] W fun e w' => e = .returned (.bool true) ∧ w' = W) := right_wide hw
  have hvl := h.2.1.lt
  generalize rs ++ ds = LL at *
  have hn1 : 1 ≤ n := by rcases hw with h | h | h | h <;> omega
  have hn8 : n ≤ 8 := by rcases hw with h | h | h | h <;> omega
  clear h hr hd hs hll hw hgp hgo
  go_enter Tryz.func11, Tryz.ntmps11
  go_wp2_with fail
  refine (HRt.out _).mono ?_
  rintro e w1 ⟨rfl, rfl⟩
  go_wp2_with fail
  refine (HAc.out _ ((Below.refl _ _).alloc (Nat.le_refl _) _)).mono ?_
  rintro e w1 ⟨x, b, hoff, rfl, hbx, hk1⟩
  have HXX : Hid (x = x) := rfl
  have hkw : Keeps (fun j => j = v) w w1 := (Keeps.alloc (S := fun j => j = v) w _).trans hk1 (fun _ _ e => e)
  have HX1 : Hid (BoxG w1 w.heap.size 0 0) := (BoxG.new w 0 0).keeps hk1 (show ¬ w.heap.size = v by omega)
  obtain ⟨r1, k1⟩ := HR.out.box hkw hbx
  have HR1 := Lib.hid r1
  have HK1 := Lib.hid k1
  have hlt1 := HX1.out.lt
  have HOf := Lib.hid hoff
  clear hkw hbx hk1 r1 k1 HAc HR hoff
  obtain ⟨W3, hW3⟩ : ∃ W3, w1.alloc (Obj.cells #[.int .i64 (if b = true then 30 else 0), .int .u64 x] 41) = W3 := ⟨_, rfl⟩
  have HB3 : Hid (Below w1.heap.size w1 W3) := hW3 ▸ (Below.refl _ _).alloc (Nat.le_refl _) _
  have HF3 : Hid (BoxG W3 w1.heap.size (if b = true then 30 else 0) x) := hW3 ▸ BoxG.new w1 _ _
  have HX3 : Hid (BoxG W3 w.heap.size 0 0) := HX1.out.below HB3.out
  have HR3 : Hid (RM W3 base v vr vd vp ps M L S (up b X)) := HR1.out.below HB3.out
  have HK3 : Hid (Kv base w W3) := HK1.out.trans (Kv.below HB3.out)
  have hne : w.heap.size ≠ w1.heap.size := by omega
  have hbs : base ≤ W3.heap.size := by have := HB3.out.size; omega
  have hl3 : w1.heap.size < W3.heap.size := HF3.out.lt
  clear HX1 HR1 HK1 HB3
  unfold FaultV
  cases b with
  | true =>
    simp only [if_true] at hW3 HF3
    obtain ⟨x0, x1, f0, f1⟩ := HX3.out.cells
    obtain ⟨y0, y1, _, _⟩ := HF3.out.cells
    go_wp2_with fail
    clear hW3
    obtain ⟨d0, d1, _⟩ := (HX3.out.set 30 x).cells
    refine bodyPost_ret (v := .agg #[.int .i64 30, .int .u64 x]) (by simp [results, Tryz.results11, go_sem, d0, d1]) rfl ?_
    have hk2 := Keeps.two W3 w.heap.size (.int .i64 30) (.int .u64 x)
    exact ⟨x, true, HOf.out, rfl, HK3.out.after hk2 (fun j hj e => by omega), fun _ => HR3.out.keeps hk2 HX3.out.notVB, fun h => absurd h (by decide)⟩
  | false =>
    obtain ⟨rfl, hon⟩ := HOf.out.2 rfl
    have ha8 : (a : Int) ≤ 4294967296 := on_le HS.out (hon 0 (by omega))
    have HGi : Hid (∀ i, i < n → Gp (((a : Int) + (i : Int)) / 4096)) := fun i hi => HGo.out _ (hon i hi)
    clear hon
    simp only [if_false, Bool.false_eq_true] at hW3 HF3
    have HW3 := Lib.hid hW3
    have HW4 : Hid (BoxG (w1.alloc (Obj.cells #[.int .i64 0, .int .u64 0] 41)) w1.heap.size 0 0) := BoxG.new w1 0 0
    clear hW3
    go_wp2_with fail
    go_loopw [10, 11] (fun bv iv wr => ∃ i : Nat, i ≤ n ∧ iv = .int .i64 (i : Int) ∧ ∃ a1 n1 c1, bv = .slice a1 n1 c1 ∧ Hid (Own wr W3.heap.size (.slice a1 n1 c1) ((Pl.le 8 val).take i)) ∧ Hid (Below W3.heap.size W3 wr)) (fun _ iv _ => n - (intOf iv).toNat)
    case atStart => exact ⟨0, by omega, rfl, none, 0, 0, rfl, own_nil _ _, HW3.out ▸ Below.refl _ _⟩
    case round =>
      obtain ⟨i, hi, rfl, a1, n1, c1, rfl, HO, HB⟩ := hrel
      by_cases hlt : i < n
      · have HO1 := HO
        have HTk : Hid ((Pl.le 8 val).take (i + 1) = (Pl.le 8 val).take i ++ [val / 2 ^ (8 * i) % 256]) := le_take_succ val i (by omega)
        have HXl : Hid (((Pl.le 8 val).take i).length = i) := by show _ = _; rw [List.length_take, Pl.le_length]; omega
        generalize (Pl.le 8 val).take i = xs at *
        clear HO
        have qi : (i : Int) < (n : Int) := by omega
        obtain ⟨r, hrr, hr2⟩ : ∃ r : Nat, (val : Int) / 2 ^ (8 * i) = (r : Int) ∧ Hid (val / 2 ^ (8 * i) = r) := ⟨val / 2 ^ (8 * i), by rw [Int.natCast_ediv, Int.natCast_pow]; rfl, rfl⟩
        have hba : Below W3.heap.size W3 (wr.alloc (Obj.cells #[.int .u8 ((r : Int) % 256)] 5)) := HB.out.alloc HB.out.size _
        have F1 : Hid (Own (wr.alloc (Obj.cells #[.int .u8 ((r : Int) % 256)] 5)) W3.heap.size (.slice a1 n1 c1) xs) := HO1.out.below ((Below.refl _ _).alloc (Nat.le_refl _) _)
        have F2 : Hid (Sl (wr.alloc (Obj.cells #[.int .u8 ((r : Int) % 256)] 5)) (.slice (some ⟨wr.heap.size, 0, none⟩) 1 1) [r % 256]) := sl_one wr r
        have F6 : Hid (xs.length + [r % 256].length ≤ 1099511627776) := by show _ ≤ _; rw [HXl.out]; simp; omega
        have F7 : Hid (W3.heap.size ≤ (wr.alloc (Obj.cells #[.int .u8 ((r : Int) % 256)] 5)).heap.size) := hba.size
        have HBa := Lib.hid hba
        clear hba
        go_wp2_with (refine wpList_append_sl (.tmp 30) (.tmp 37) rfl rfl rfl F1.out rfl F2.out F6.out F7.out ?_)
        intro v' w5 ho hg5 ho3
        obtain ⟨a', n', c', rfl⟩ : ∃ a n c, v' = .slice a n c := by
          rcases ho.2 with ⟨rfl, _⟩ | ⟨g, cap, cur, rfl, _⟩
          · exact ⟨_, _, _, rfl⟩
          · exact ⟨_, _, _, rfl⟩
        have HO5 : Hid (Own w5 W3.heap.size (.slice a' n' c') ((Pl.le 8 val).take (i + 1))) := by
          rw [HTk.out, hr2.out]
          exact ho
        have HB5 : Hid (Below W3.heap.size W3 w5) := HBa.out.grown hg5 F7.out (fun k e => (F1.out.lt k e).1)
        clear ho hg5 ho3
        go_wp2_with fail
        exact ⟨⟨i + 1, by omega, by go_num, a', n', c', rfl, HO5, HB5⟩, by simp [intOf]; omega⟩
      · obtain rfl : i = n := by omega
        have hxl : ((Pl.le 8 val).take i).length = i := by rw [List.length_take, Pl.le_length]; omega
        obtain ⟨g, cap, hv, hg0, hg1, hg2, hg3⟩ := HO.out.form (by omega)
        rw [hxl] at hv hg2
        cases hv
        have HRr := HR3.out.below HB.out
        have hgl : ∀ x ∈ ps, x.2 ≠ g := fun x hx e => by
          have h1 := (HR3.out.2.2.2.1 x hx).2.lt
          have h2 := (HO.out.lt g rfl).1
          omega
        have HLy : Hid (Calls Tryz.prog 34 #[.pointer (some ⟨v, 0, none⟩), .int .u64 (a : Int), .slice (some ⟨g, 0, none⟩) i c1, .int .i64 (i : Int), .int .u8 0] wr fun e w' => e = .returned (.tuple #[]) ∧ ∃ vp' ps', RM w' base v vr vd vp' ps' (putAt M a ((Pl.le 8 val).take i)) L S X ∧ (∀ x ∈ ps', Gp x.1) ∧ Kv base wr w') := rlay_g HRr (Nat.le_trans hbs HB.out.size) HO.out.p8 hgl hxl (fun z hz => Pl.le_small 8 val z (List.mem_of_mem_take hz)) hn8 hg2 (by omega) HGp.out HGi.out
        have hwb : W3.heap.size ≤ wr.heap.size := HB.out.size
        clear HO hxl HRr hg0 hg1 hg2 hg3 hgl
        go_wp2_with fail
        refine HLy.out.mono ?_
        rintro e w6 ⟨rfl, vp', ps', hr6, hg6, hk6⟩
        have HR6 := Lib.hid hr6
        have HG6 := Lib.hid hg6
        have HK6 := Lib.hid hk6
        have HX6 : Hid (BoxG w6 w.heap.size 0 0) := (HX3.out.below HB.out).keeps hk6 (fun e => (HX3.out.below HB.out).notVB _ e rfl)
        have HF6 : Hid (BoxG w6 w1.heap.size 0 0) := (HF3.out.below HB.out).keeps hk6 (fun e => (HF3.out.below HB.out).notVB _ e rfl)
        clear HLy hr6 hk6 hg6
        obtain ⟨_, _, _, _, c4, _⟩ := HR6.out.2.1.cells
        have f4 := HR6.out.2.1.thawed 4
        obtain ⟨x0, x1, f0, f1⟩ := HX6.out.cells
        obtain ⟨y0, y1, _, _⟩ := HF6.out.cells
        have hv1 : v ≠ w.heap.size := by omega
        have hv2 : v ≠ w1.heap.size := by omega
        go_wp2_with fail
        have hk7 := Keeps.setCell w6 v 4 (.int .i64 ((S : Int) + 1))
        have hx7 : BoxG (w6.setCell ⟨v, 4, none⟩ (.int .i64 ((S : Int) + 1))) w.heap.size 0 0 := HX6.out.keeps hk7 (fun e => hv1 (show w.heap.size = v from e).symm)
        have hb7 : RBox (w6.setCell ⟨v, 4, none⟩ (.int .i64 ((S : Int) + 1))) v vr vd vp' L (S + 1) X := by
          have h1 : w6.heap[v]? = _ := HR6.out.2.1
          simp [RBox, World.setCell, Array.getElem?_modify, h1]
        obtain ⟨r7, k7⟩ := HR6.out.box hk7 hb7
        generalize w6.setCell ⟨v, 4, none⟩ (.int .i64 ((S : Int) + 1)) = W7 at *
        obtain ⟨d0, d1, _⟩ := (hx7.set 0 0).cells
        refine bodyPost_ret (v := .agg #[.int .i64 0, .int .u64 0]) (by simp [results, Tryz.results11, go_sem, d0, d1]) rfl ?_
        have hk8 := Keeps.two W7 w.heap.size (.int .i64 0) (.int .u64 0)
        exact ⟨0, false, HOf.out, rfl, (((HK3.out.trans (Kv.below HB.out)).trans HK6.out).trans k7).after hk8 (fun j hj e => by omega), fun h => absurd h (by decide), fun _ => ⟨vp', ps', r7.keeps hk8 hx7.notVB, HG6.out⟩⟩
end Go.Proofs.YtdkhhofgfbnmkaaGreat
