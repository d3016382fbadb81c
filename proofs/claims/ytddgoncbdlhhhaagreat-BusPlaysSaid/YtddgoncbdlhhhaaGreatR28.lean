import Derived.Test.YtddgoncbdlhhhaaGreatR25
import Derived.Test.YtddgoncbdlhhhaaGreatR27
import Derived.Deep.RegionHeld3
/- The document's own lay of a row that came in. Own work. -/
namespace Go.Proofs.YtddgoncbdlhhhaaGreat
open Go.RowKit Go.Maps Go.Proofs.YtddgoncbdlhhhaaGreat.Sp Wk
/-- a row of n bytes that begins somewhere in a block -/
def P8o (w : World) (g off n : Nat) (f : Nat → Nat) : Prop := g < w.heap.size ∧ ∀ i, i < n → w.cell? ⟨g, off + i, none⟩ = some (.int .u8 (f i : Int))
theorem P8o.keeps {Z : Nat → Prop} {w w' : World} {g off n : Nat} {f : Nat → Nat} (h : P8o w g off n f) (hk : Keeps Z w w') (hn : ¬ Z g) : P8o w' g off n f := ⟨Nat.lt_of_lt_of_le h.1 hk.size, fun i hi => by
  rw [← h.2 i hi]
  show World.cell? _ _ = World.cell? _ _
  unfold World.cell?
  rw [hk.block g h.1 hn]⟩
theorem P8o.below {w w' : World} {g off n : Nat} {f : Nat → Nat} (h : P8o w g off n f) (hb : Below w.heap.size w w') : P8o w' g off n f := h.keeps (Keeps.of_below (S := fun _ => False) hb) (fun h => h)
theorem P8o.cell {w : World} {g off n : Nat} {f : Nat → Nat} (h : P8o w g off n f) (i : Nat) (hi : i < n) : w.cell? ⟨g, off + i, none⟩ = some (.int .u8 (f i : Int)) := h.2 i hi
/-- what lay keeps: s bytes are laid -/
def LayO (vp0 : Value) (ps0 : List (Int × Nat)) (w0 w : World) (base v : Nat) (vr vd : Value) (L S X gb off : Nat) (xs : List Nat) (M : Nat → Nat) (a s : Nat) (vp : Value) (ps : List (Int × Nat)) (NN : List Int) : Prop := RM w base v vr vd vp ps (putAt M a (xs.take s)) L S X ∧ P8o w gb off xs.length (fun i => xs.getD i 0) ∧ Kf v vp0 ps0 w0 vp ps w ∧ True ∧ base ≤ w.heap.size ∧ ps.map Prod.fst = NN
theorem LayO.write {vp0 : Value} {ps0 : List (Int × Nat)} {NN : List Int} {w0 w : World} {base v : Nat} {vr vd vp : Value} {L S X gb off a s : Nat} {xs : List Nat} {M : Nat → Nat} {ps : List (Int × Nat)} (h : LayO vp0 ps0 w0 w base v vr vd L S X gb off xs M a s vp ps NN) (hgb : gb < base) {x : Int × Nat} (hx : x ∈ ps) {t : Nat} (ht : t < 4096) (hs : s < xs.length) (hz : ∀ z ∈ xs, z < 256) (he : x.1.toNat * 4096 + t = a + s) : LayO vp0 ps0 w0 (w.setCell ⟨x.2, t, none⟩ (.int .u8 ((xs.getD s 0 : Nat) : Int))) base v vr vd L S X gb off xs M a (s + 1) vp ps NN := by
  have hzs : xs.getD s 0 < 256 := by
    rw [List.getD_eq_getElem?_getD, List.getElem?_eq_getElem hs]
    exact hz _ (List.getElem_mem hs)
  have h1 := h.1.write hx ht hzs
  rw [he, putAt_step M a xs s hs] at h1
  refine ⟨h1, h.2.1.keeps (Keeps.setCell w x.2 t _) (fun e => by have := (h.1.2.2.2.1 x hx).1; have e : gb = x.2 := e; omega), h.2.2.1.trans (Kf.of (Keeps.setCell w x.2 t _) (fun k _ e => .inr (.inr ⟨x, hx, (show k = x.2 from e).symm⟩))), h.2.2.2.1, Nat.le_trans h.2.2.2.2.1 (Keeps.setCell w x.2 t (.int .u8 ((xs.getD s 0 : Nat) : Int))).size, h.2.2.2.2.2⟩
set_option maxRecDepth 100000 in
set_option maxHeartbeats 2000000 in
theorem rlay_o {w : World} {base v : Nat} {vr vd vp : Value} {ps : List (Int × Nat)} {M : Nat → Nat} {L S X a n gb off cb : Nat} {xs : List Nat} (h : RM w base v vr vd vp ps M L S X) (hb : base ≤ w.heap.size) (hB : P8o w gb off xs.length (fun i => xs.getD i 0)) (hgb : gb < base) (hxl : xs.length = n) (hxs : ∀ z ∈ xs, z < 256) (hn : n ≤ 1099511627776) (hcb : n ≤ cb) (ha : 0 < n → a + n ≤ 4294967400) :
    Calls Tryz.prog 54 #[.pointer (some ⟨v, 0, none⟩), .int .u64 (a : Int), .slice (some ⟨gb, off, none⟩) n cb, .int .i64 (n : Int), .int .u8 0] w fun e w' => e = .returned (.tuple #[]) ∧ ∃ vp' ps', RM w' base v vr vd vp' ps' (putAt M a xs) L S X ∧ Kf v vp ps w vp' ps' w' ∧ ps'.map Prod.fst = addN (ps.map Prod.fst) a n := by
  obtain ⟨NS, hNS⟩ : ∃ NS, ps.map Prod.fst = NS := ⟨_, rfl⟩
  rw [hNS]
  have HI0 : Hid (∃ vp' ps', LayO vp ps w w base v vr vd L S X gb off xs M a 0 vp' ps' (addN NS a 0)) := ⟨vp, ps, by rw [List.take_zero, putAt_nil]; exact h, hB, Kf.refl _ _ _ _, trivial, hb, hNS⟩
  have HXl := Lib.hid hxl
  have HXs := Lib.hid hxs
  clear h hB hb hxl hxs hNS
  have hmk : ∀ W : World, (Instr.makeSlice 27 (.int .i64 4096) (.int .i64 4096)).run Tryz.prog W = .ok (.slice (some ⟨W.heap.size, 0, none⟩) 4096 4096) (W.alloc (.cells zc 5)) := make_page
  go_enter Tryz.func54, Tryz.ntmps54
  go_wp2_with fail
  go_loopw [10] (fun iv wr => ∃ i : Nat, i ≤ n ∧ iv = .int .i64 (i : Int) ∧ Hid (∃ vp' ps', LayO vp ps w wr base v vr vd L S X gb off xs M a i vp' ps' (addN NS a i))) (fun iv _ => n - (intOf iv).toNat)
  case atStart => exact ⟨0, Nat.zero_le _, rfl, HI0⟩
  case round =>
    obtain ⟨i, hi, rfl, HI⟩ := hrel
    by_cases hlt : i < n
    · obtain ⟨vp1, ps1, HI1⟩ := HI.out
      have HL := Lib.hid HI1
      clear HI1 HI HI0
      have qi : (i : Int) < (n : Int) := by omega
      have hai : (a : Int) + (i : Int) ≤ 18446744073709551615 := by omega
      obtain ⟨fr, hfr, hfr2⟩ : ∃ fr : Nat, ((a : Int) + (i : Int)) % 4096 = (fr : Int) ∧ fr < 4096 := ⟨(a + i) % 4096, by omega, by omega⟩
      have HSm : Hid (∀ k, 1 ≤ k → k + fr ≤ 4096 → addN NS a (i + k) = addN NS a (i + 1)) := fun k h1 h2 => by
        obtain ⟨k', rfl⟩ : ∃ k', k = k' + 1 := ⟨k - 1, by omega⟩
        exact addN_same NS a i k' (by omega)
      obtain ⟨pg, hpg⟩ : ∃ pg : Nat, ((a : Int) + (i : Int)) / 4096 = (pg : Int) := ⟨(a + i) / 4096, by omega⟩
      have HSt : Hid (addN NS a (i + 1) = addP (addN NS a i) (pg : Int)) := by
        show addP _ _ = _
        rw [← hpg, Int.natCast_ediv, Int.natCast_add]
        rfl
      have hw1 : IntKind.u64.wrap ((a : Int) + (i : Int)) = (a : Int) + (i : Int) := by rw [IntKind.wrap_u64]; omega
      have HF : Hid (Calls Tryz.prog 87 #[.pointer (some ⟨v, 0, none⟩), .int .u64 (pg : Int)] wr fun e w' => ∃ j : Int, e = .returned (.int .i64 j) ∧ Hid ((j = -1 ∧ ∀ x ∈ ps1, x.1 ≠ (pg : Int)) ∨ ∃ i : Nat, j = (i : Int) ∧ ∃ hi : i < ps1.length, (ps1[i]'hi).1 = (pg : Int)) ∧ wr = w') := rfind_at HL.out.1.rs (by have := HL.out.1.pn.len; omega)
      obtain ⟨k, hk1, hk2, hk3, hkk⟩ : ∃ k : Nat, 1 ≤ k ∧ k ≤ n - i ∧ k + fr ≤ 4096 ∧ Hid ((decide ((k : Int) < 4096 - (fr : Int)) = true ∧ (n : Int) - (i : Int) = (k : Int)) ∨ (decide ((n : Int) - (i : Int) < (k : Int)) = false ∧ (4096 : Int) - (fr : Int) = (k : Int))) := by
        by_cases hc : n - i < 4096 - fr
        · exact ⟨n - i, by omega, by omega, by omega, .inl ⟨by simp; omega, by omega⟩⟩
        · exact ⟨4096 - fr, by omega, by omega, by omega, .inr ⟨by simp; omega, by omega⟩⟩
      go_upto_if 31 with fail
      go_cut [12] (fun s wx => s = .int .i64 (k : Int) ∧ wx = wr)
      case first =>
        rcases hkk.out with ⟨hci, hk⟩ | ⟨hci, hk⟩
        · have hcp : (n : Int) - (i : Int) < 4096 - (fr : Int) := by rw [hk]; exact of_decide_eq_true hci
          clear hci
          rw [hk] at hcp
          go_wp2_with fail
          go_meet
          exact ⟨rfl, rfl⟩
        · have hcp : ¬ (n : Int) - (i : Int) < (k : Int) := of_decide_eq_false hci
          clear hci
          go_wp2_with fail
          go_meet
          exact ⟨rfl, rfl⟩
      case rest =>
        obtain ⟨rfl, rfl⟩ := hcut
        clear hkk
        go_wp2_with fail
        refine HF.out.mono ?_
        rintro e w1 ⟨j, rfl, hj, rfl⟩
        clear HF
        go_upto_region 7 with fail
        go_cut [51] (fun s wx => s = .bool (decide (j < 0)) ∧ wx = wc)
        case first =>
          rcases hj.out with ⟨rfl, hjx⟩ | ⟨j0, rfl, hj0, hj1⟩
          · go_wp2_with fail
            go_meet
            exact ⟨rfl, rfl⟩
          · have hjn : decide ((j0 : Int) < 0) = false := by simp
            go_wp2_with fail
            go_meet
            exact ⟨by go_num, rfl⟩
        case rest =>
          obtain ⟨rfl, hwc⟩ := hcut
          subst hwc
          go_upto_if 51 with fail
          go_cut [13] (fun s wx => ∃ (jj : Nat) (vp2 : Value) (ps2 : List (Int × Nat)), s = .int .i64 (jj : Int) ∧ Hid (∃ hi : jj < ps2.length, (ps2[jj]'hi).1 = (pg : Int)) ∧ Hid (LayO vp ps w wx base v vr vd L S X gb off xs M a i vp2 ps2 (addN NS a (i + 1))))
          case first =>
            rcases hj.out with ⟨rfl, hjx⟩ | ⟨j0, rfl, hj0, hj1⟩
            · clear hj
              have HJX := Lib.hid hjx
              clear hjx
              obtain ⟨c0, c1, c2, _⟩ := HL.out.1.2.1.cells
              have hvl := HL.out.1.2.1.lt
              have hv1 : v ≠ wc.heap.size := by omega
              have hv2 : v ≠ wc.heap.size + 1 := by omega
              obtain ⟨a1, cc, hvp, hc1, hc2, _⟩ := HL.out.1.2.2.1.form
              unfold maxLen at hc2
              obtain ⟨n1, hn1⟩ : ∃ n1, n1 = ps1.length := ⟨_, rfl⟩
              have HN1 : Hid (n1 = ps1.length) := hn1
              rw [← hn1] at hvp hc1
              have hn1l : n1 ≤ 2097153 := by rw [HN1.out]; exact HL.out.1.pn.len
              subst hvp
              clear hn1
              have HO : Hid (OwnP (W2 wc (pg : Int)) base (.slice a1 n1 cc) ps1) := HL.out.1.2.2.1.keeps (W2.keeps wc (pg : Int)) (fun _ _ e => e)
              have HC : Hid ((W2 wc (pg : Int)).cell? ⟨wc.heap.size + 1, 0, none⟩ = some (.int .u64 (pg : Int)) ∧ (W2 wc (pg : Int)).cell? ⟨wc.heap.size + 1, 1, none⟩ = some (.slice (some ⟨wc.heap.size, 0, none⟩) 4096 4096)) := W2.cells wc (pg : Int)
              have HA : Hid (∀ v2 w2, OwnP w2 base v2 (ps1 ++ [((pg : Int), wc.heap.size)]) → (W2 wc (pg : Int)).grownBy w2 (Value.slice a1 n1 cc).ownBlock → (v2.ownBlock = (Value.slice a1 n1 cc).ownBlock ∨ v2.ownBlock = some (W2 wc (pg : Int)).heap.size) → LayO vp ps w (w2.setCell ⟨v, 2, none⟩ v2) base v vr vd L S X gb off xs M a i v2 (ps1 ++ [((pg : Int), wc.heap.size)]) (addN NS a (i + 1)) ∧ w2.cell? ⟨v, 2, none⟩ = some (.slice a1 n1 cc) ∧ w2.frozen? ⟨v, 2, none⟩ = false) := fun v2 w2 ho hg hfr => by
                obtain ⟨r1, _, _, r4, r5, r6⟩ := HL.out.1.app HL.out.2.2.2.2.1 pg (by omega) HJX.out ho hg
                refine ⟨⟨r1, HL.out.2.1.keeps (kf_app (v := v) (ps := ps1) hg hfr).keeps (fun e => by have := (HL.out.1.fo e).1; omega), HL.out.2.2.1.trans (kf_app hg hfr), trivial, r6, ?_⟩, r4, r5⟩
                · rw [HSt.out, addP_new (fun hm => ?_), List.map_append, HL.out.2.2.2.2.2]
                  · rfl
                  · rw [← HL.out.2.2.2.2.2] at hm
                    obtain ⟨x, hx, e⟩ := List.mem_map.1 hm
                    exact HJX.out x hx e
              have HBs : Hid (base ≤ (W2 wc (pg : Int)).heap.size) := Nat.le_trans HL.out.2.2.2.2.1 (W2.keeps wc (pg : Int)).size
              have hw0 : IntKind.u64.wrap (i : Int) = (i : Int) := by rw [IntKind.wrap_u64]; omega
              have hw2 : IntKind.u64.wrap (((a : Int) + (i : Int)).tdiv 4096) = (pg : Int) := by rw [Int.tdiv_eq_ediv_of_nonneg (by omega), hpg, IntKind.wrap_u64]; omega
              have HLn : Hid (ps1.length ≤ 1099511627776) := by show _ ≤ _; rw [← HN1.out]; omega
              go_wp2_with fail
              go_region_law (refine step_appPF (base := base) (v := .slice a1 n1 cc) (ps := ps1) (x := ((pg : Int), wc.heap.size)) (by kernel_rfl) (.tmp 61) (.tmp 69) (by rfl) (by rfl) (by exact HO.out) (by rfl) (by exact HC.out.1) (by exact HC.out.2) HLn.out (by exact HBs.out) ?_; intro va vn vc w2 ho hg hfr; obtain ⟨hl2, hc2, hf2⟩ := HA.out _ w2 ho hg hfr; have HL2 := Lib.hid hl2; clear hl2 ho hg hfr)
              all_goals
                go_wp2_with fail
                go_meet
                exact ⟨n1, _, _, rfl, ⟨by rw [HN1.out, List.length_append]; exact Nat.lt_succ_self _, by simp [HN1.out]⟩, HL2⟩
            · clear hj
              have HJ : Hid (∃ hi : j0 < ps1.length, (ps1[j0]'hi).1 = (pg : Int)) := ⟨hj0, hj1⟩
              clear hj0 hj1
              have HL2 : Hid (LayO vp ps w wc base v vr vd L S X gb off xs M a i vp1 ps1 (addN NS a (i + 1))) := by
                refine ⟨HL.out.1, HL.out.2.1, HL.out.2.2.1, HL.out.2.2.2.1, HL.out.2.2.2.2.1, ?_⟩
                rw [HSt.out, addP_in, HL.out.2.2.2.2.2]
                rw [← HL.out.2.2.2.2.2, ← HJ.out.2]
                exact List.mem_map_of_mem (List.getElem_mem HJ.out.1)
              go_wp2_with fail
              go_meet
              exact ⟨j0, _, _, rfl, HJ, HL2⟩
          case rest =>
            obtain ⟨jj, vp2, ps2, rfl, HJ, HL2⟩ := hcut
            clear hj HL
            have jj0 : (0 : Int) ≤ (jj : Int) := Int.natCast_nonneg _
            go_wp2_with fail
            go_loopw [14] (fun qv wq => ∃ q : Nat, q ≤ k ∧ qv = .int .i64 (q : Int) ∧ Hid (LayO vp ps w wq base v vr vd L S X gb off xs M a (i + q) vp2 ps2 (addN NS a (i + 1)))) (fun qv _ => k - (intOf qv).toNat)
            case atStart => exact ⟨0, Nat.zero_le _, rfl, HL2⟩
            case round =>
              obtain ⟨q, hq, rfl, HQ⟩ := hrel
              by_cases hqk : q < k
              · have qki : (q : Int) < (k : Int) := by omega
                obtain ⟨c0, c1, c2, _⟩ := HQ.out.1.2.1.cells
                obtain ⟨a1, cc, hvp, hc1, hc2, _⟩ := HQ.out.1.2.2.1.form
                unfold maxLen at hc2
                obtain ⟨n1, hn1⟩ : ∃ n1, n1 = ps2.length := ⟨_, rfl⟩
                have HN1 : Hid (n1 = ps2.length) := hn1
                rw [← hn1] at hvp hc1
                have hjn : jj < n1 := by rw [HN1.out]; exact HJ.out.1
                subst hvp
                clear hn1
                obtain ⟨g, rfl, d0, cq, d1⟩ := HQ.out.1.2.2.1.cell jj HJ.out.1
                obtain ⟨X0, hX0⟩ : ∃ X0, X0 = ps2[jj]'HJ.out.1 := ⟨_, rfl⟩
                rw [← hX0] at d0 d1
                have HXM : Hid (X0 ∈ ps2) := hX0 ▸ List.getElem_mem HJ.out.1
                have HX1 : Hid (X0.1 = (pg : Int)) := hX0 ▸ HJ.out.2
                clear hX0
                obtain ⟨_, hxu⟩ := HQ.out.1.2.2.2.1 X0 HXM.out
                have HXU := Lib.hid hxu
                obtain ⟨x, hx⟩ : ∃ x, x = X0.2 := ⟨_, rfl⟩
                have HX2 : Hid (x = X0.2) := hx
                rw [← hx] at d1 HXU
                clear hx hxu
                obtain ⟨s, hs, hs2⟩ : ∃ s : Nat, (i : Int) + (q : Int) = (s : Int) ∧ s < n := ⟨i + q, by omega, by omega⟩
                obtain ⟨t, ht, ht2⟩ : ∃ t : Nat, (fr : Int) + (q : Int) = (t : Int) ∧ t < 4096 := ⟨fr + q, by omega, by omega⟩
                have hcz := HQ.out.2.1.cell s (by rw [HXl.out]; exact hs2)
                obtain ⟨y, hcy⟩ : ∃ y : Nat, wr.cell? ⟨x, t, none⟩ = some (.int .u8 (y : Int)) := ⟨_, HXU.out.cell t ht2⟩
                have hfz := HXU.out.thawed t
                have HW : Hid (LayO vp ps w (wr.setCell ⟨x, t, none⟩ (.int .u8 ((xs.getD s 0 : Nat) : Int))) base v vr vd L S X gb off xs M a (i + (q + 1)) (.slice (some ⟨g, 0, none⟩) n1 cc) ps2 (addN NS a (i + 1))) := by
                  rw [HX2.out, show i + (q + 1) = s + 1 by omega]
                  exact LayO.write (by rw [show s = i + q by omega]; exact HQ.out) hgb HXM.out ht2 (by rw [HXl.out]; exact hs2) HXs.out (by rw [HX1.out]; omega)
                generalize xs.getD s 0 = z at hcz HW
                go_wp2_with fail
                exact ⟨⟨q + 1, by omega, by go_num, HW⟩, by simp [intOf]; omega⟩
              · go_wp2_with fail
                refine ⟨⟨i + k, by omega, by go_num, ?_⟩, by simp [intOf]; omega⟩
                obtain rfl : q = k := by omega
                exact ⟨_, _, by rw [HSm.out _ hk1 hk3]; exact HQ.out⟩
    · obtain rfl : i = n := by omega
      go_wp2_with fail
      go_end0
      obtain ⟨vp1, ps1, h1⟩ := HI.out
      have h2 := h1.1
      rw [List.take_of_length_le (by rw [HXl.out]; exact Nat.le_refl _)] at h2
      exact ⟨rfl, vp1, ps1, h2, h1.2.2.1, h1.2.2.2.2.2⟩
end Go.Proofs.YtddgoncbdlhhhaaGreat
/- The document's own machine: its Write of a row that came in. Own work. -/
namespace Go.Proofs.YtddgoncbdlhhhaaGreat
open Go.RowKit Go.Maps Go.Proofs.YtddgoncbdlhhhaaGreat.Sp Wk
set_option maxRecDepth 100000 in
set_option maxHeartbeats 4000000 in
theorem rwrite_n {w : World} {base v : Nat} {vr vd vp : Value} {ps : List (Int × Nat)} {M : Nat → Nat} {rs ds : List Sp} {L S X a n cb : Nat} {ao : Option Addr} {zs : List Nat} (h : RM w base v vr vd vp ps M L S X) (hzl : zs.length = n) (hzs : ∀ z ∈ zs, z < 256) (hcb : n ≤ cb) (hrow : 0 < n → ∃ gb off, ao = some ⟨gb, off, none⟩ ∧ gb < base ∧ P8o w gb off zs.length (fun i => zs.getD i 0)) (hn : n ≤ 9223372036854775807) (hr : U64.SV w vr rs) (hd : U64.SV w vd ds) (hs : Sane (rs ++ ds)) (hll : rs.length + ds.length ≤ 64) (ha : a ≤ 18446744073709551615) (hX : X ≤ 4611686018427387904) :
    Calls Tryz.prog 59 #[.pointer (some ⟨v, 0, none⟩), .int .u64 (a : Int), .slice ao n cb] w (RFiN w base v vr vd vp ps M (rs ++ ds) L S X a n zs) := by
  have HR := Lib.hid h
  have HAc : Hid (∀ W, Below w.heap.size w W → Calls Tryz.prog 50 #[.pointer (some ⟨v, 0, none⟩), .int .u64 (a : Int), .int .i64 (n : Int)] W (RAsk W v vr vd vp (rs ++ ds) L S X a n)) := fun W hW => raccess_any (h.2.1.below hW) (hr.below hW (Nat.le_refl _)) (hd.below hW (Nat.le_refl _)) hs hll ha hn hX
  have HS := Lib.hid hs
  have hvl := h.2.1.lt
  generalize rs ++ ds = LL at *
  have HZl := Lib.hid hzl
  have HZs := Lib.hid hzs
  have HRw := Lib.hid hrow
  clear h hr hd hs hll hzl hzs hrow
  go_enter Tryz.func59, Tryz.ntmps59
  go_wp2_with fail
  refine (HAc.out _ ((Below.refl _ _).alloc (Nat.le_refl _) _)).mono ?_
  rintro e w1 ⟨x, b, ho, rfl, hm1, hk1⟩
  have HOff : Hid (OffR LL a n x b) := ho
  have HX1 : Hid (BoxG w1 w.heap.size 0 0) := (BoxG.new w 0 0).keeps hk1 (show ¬ w.heap.size = v by omega)
  have HK1 : Hid (Keeps (fun j => j = v) w w1) := (Keeps.alloc (S := fun j => j = v) w _).trans hk1 (fun _ _ e => e)
  have HM1 : Hid (RM w1 base v vr vd vp ps M L S (up b X)) := (HR.out.box HK1.out hm1).1
  have hne : w.heap.size ≠ w1.heap.size := Nat.ne_of_lt HX1.out.lt
  have hlt1 := HX1.out.lt
  clear ho hm1 hk1 HAc HR
  unfold FaultV
  cases b with
  | true =>
    simp only [if_true]
    obtain ⟨x0, x1, f0, f1⟩ := HX1.out.cells
    go_wp2_with fail
    obtain ⟨d0, d1, _⟩ := ((HX1.out.set 30 x).below ((Below.refl _ _).alloc (Nat.le_refl _) (Obj.cells #[.int .i64 30, .int .u64 x] 75))).cells
    refine bodyPost_ret (v := .agg #[.int .i64 30, .int .u64 x]) (by simp [results, Tryz.results59, go_sem, d0, d1]) rfl ?_
    have hk2 := (Keeps.two w1 w.heap.size (.int .i64 30) (.int .u64 x)).trans (Keeps.alloc (S := fun _ => False) _ (Obj.cells #[.int .i64 30, .int .u64 x] 75)) (fun _ _ e => e.elim)
    exact ⟨x, true, HOff.out, rfl, fun _ => ⟨HM1.out.keeps hk2 HX1.out.notVB, HK1.out.trans hk2 (fun i hi e => absurd e (by omega))⟩, fun h => absurd h (by decide)⟩
  | false =>
    simp only [Bool.false_eq_true, if_false]
    obtain ⟨hx0, hon⟩ := HOff.out.2 rfl
    subst hx0
    have hle : 0 < n → a + n ≤ 4294967400 := fun h0 => by
      obtain ⟨m, rfl⟩ : ∃ m, n = m + 1 := ⟨n - 1, by omega⟩
      obtain ⟨r, hr, h1, h2⟩ := hon m (by omega)
      have := HS.out r hr
      omega
    have hn40 : n ≤ 1099511627776 := by
      by_cases h0 : 0 < n
      · have := hle h0
        omega
      · omega
    clear hon
    by_cases h0 : 0 < n
    · obtain ⟨gb, off, rfl, hgb, hp⟩ := HRw.out h0
      have hbv := HM1.out.1
      have h0i : (0 : Int) < (n : Int) := by omega
      go_wp2_with fail
      obtain ⟨W2, hW2⟩ : ∃ W2, w1.alloc (Obj.cells #[.int .i64 0, .int .u64 0] 75) = W2 := ⟨_, rfl⟩
      have HF2 : Hid (BoxG W2 w1.heap.size 0 0) := hW2 ▸ BoxG.new w1 0 0
      have HX2 : Hid (BoxG W2 w.heap.size 0 0) := hW2 ▸ HX1.out.below ((Below.refl _ _).alloc (Nat.le_refl _) _)
      have HB2 : Hid (Below w1.heap.size w1 W2) := hW2 ▸ (Below.refl _ _).alloc (Nat.le_refl _) _
      rw [hW2]
      have HM2 : Hid (RM W2 base v vr vd vp ps M L S X) := HM1.out.below HB2.out
      have HLy := Lib.hid (rlay_o (a := a) (n := n) (off := off) (cb := cb) HM2.out (by have := HB2.out.size; omega) ((hp.keeps HK1.out (show ¬ gb = v by omega)).below HB2.out) hgb HZl.out HZs.out hn40 hcb hle)
      clear hW2
      refine HLy.out.mono ?_
      rintro e w3 ⟨rfl, vp', ps', hm3, hk3, hp4⟩
      have HF3 : Hid (BoxG w3 w1.heap.size 0 0) := HF2.out.keeps hk3.keeps (fun e => HF2.out.notVB _ (HM2.out.fo e) rfl)
      have HX3 : Hid (BoxG w3 w.heap.size 0 0) := HX2.out.keeps hk3.keeps (fun e => HX2.out.notVB _ (HM2.out.fo e) rfl)
      have HM3 := Lib.hid hm3
      have HK3 : Hid (Kf v vp ps w vp' ps' w3) := ((Kf.one HK1.out).trans (Kf.below HB2.out)).trans hk3
      have HP3 : Hid (PgN ps ps' a n) := fun x hx => addN_mem (hp4 ▸ hx)
      clear hm3 hk3 hp4 HLy
      obtain ⟨x0, x1, f0, f1⟩ := HX3.out.cells
      obtain ⟨y0, y1, _, _⟩ := HF3.out.cells
      go_wp2_with fail
      obtain ⟨d0, d1, _⟩ := (HX3.out.set 0 0).cells
      refine bodyPost_ret (v := .agg #[.int .i64 0, .int .u64 0]) (by simp [results, Tryz.results59, go_sem, d0, d1]) rfl ?_
      have hk2 := Keeps.two w3 w.heap.size (.int .i64 0) (.int .u64 0)
      exact ⟨0, false, HOff.out, rfl, fun h => absurd h (by decide), fun _ => ⟨vp', ps', HM3.out.keeps hk2 HX3.out.notVB, HK3.out.after hk2 (fun j hj e => by omega), HP3.out⟩⟩
    · obtain rfl : n = 0 := by omega
      have hz0 : zs = [] := List.eq_nil_of_length_eq_zero HZl.out
      subst hz0
      obtain ⟨x0, x1, f0, f1⟩ := HX1.out.cells
      go_wp2_with fail
      obtain ⟨d0, d1, _⟩ := ((HX1.out.set 0 0).below ((Below.refl _ _).alloc (Nat.le_refl _) (Obj.cells #[.int .i64 0, .int .u64 0] 75))).cells
      refine bodyPost_ret (v := .agg #[.int .i64 0, .int .u64 0]) (by simp [results, Tryz.results59, go_sem, d0, d1]) rfl ?_
      have hk2 := (Keeps.two w1 w.heap.size (.int .i64 0) (.int .u64 0)).trans (Keeps.alloc (S := fun _ => False) _ (Obj.cells #[.int .i64 0, .int .u64 0] 75)) (fun _ _ e => e.elim)
      exact ⟨0, false, HOff.out, rfl, fun h => absurd h (by decide), fun _ => ⟨vp, ps, by rw [putAt_nil]; exact HM1.out.keeps hk2 HX1.out.notVB, (Kf.one HK1.out).after hk2 (fun j hj e => by omega), fun x hx => .inl hx⟩⟩
end Go.Proofs.YtddgoncbdlhhhaaGreat
/- The document's own machine: widths that are none, counts below 0. Own work. -/
namespace Go.Proofs.YtddgoncbdlhhhaaGreat
open Go.RowKit Go.Maps Go.Proofs.YtddgoncbdlhhhaaGreat.Sp Wk
theorem nwide {n : Int} (h : ∀ k : Nat, Wide k → n ≠ (k : Int)) : (n == 1) = false ∧ (n == 2) = false ∧ (n == 4) = false ∧ (n == 8) = false := by
  have h1 := h 1 (.inl rfl)
  have h2 := h 2 (.inr (.inl rfl))
  have h4 := h 4 (.inr (.inr (.inl rfl)))
  have h8 := h 8 (.inr (.inr (.inr rfl)))
  refine ⟨?_, ?_, ?_, ?_⟩ <;> simp <;> omega
set_option maxRecDepth 100000 in
set_option maxHeartbeats 1000000 in
theorem right_nw {n : Int} (h : ∀ k : Nat, Wide k → n ≠ (k : Int)) (w : World) : Calls Tryz.prog 49 #[.int .i64 n] w fun e w' => e = .returned (.bool false) ∧ w' = w := by
  obtain ⟨h1, h2, h4, h8⟩ := nwide h
  clear h
  go_enter Tryz.func49, Tryz.ntmps49
  go_wp2_with fail
  go_ret
  exact ⟨rfl, rfl⟩
set_option maxRecDepth 100000 in
set_option maxHeartbeats 1000000 in
theorem rpeek_nw {pm : Value} {n a : Int} (h : ∀ k : Nat, Wide k → n ≠ (k : Int)) (w : World) : Calls Tryz.prog 22 #[pm, .int .u64 a, .int .i64 n] w fun e w' => e = .returned (.tuple #[.int .u64 0, FaultV 31 a]) ∧ Below w.heap.size w w' := by
  have HRt : Hid (∀ W, Calls Tryz.prog 49 #[.int .i64 n] W fun e w' => e = .returned (.bool false) ∧ w' = W) := right_nw h
  clear h
  unfold FaultV
  obtain ⟨s0, s1, _, _⟩ := (BoxG.new w 31 a).cells
  go_enter Tryz.func22, Tryz.ntmps22
  go_wp2_with (go_at_call 49; refine (HRt.out _).mono ?_; rintro e w' ⟨rfl, hw⟩; have hw := hw.symm; subst hw)
  refine bodyPost_ret (v := .tuple #[.int .u64 0, .agg #[.int .i64 31, .int .u64 a]]) (by simp [results, Tryz.results22, go_sem, s0, s1]) rfl ?_
  exact ⟨rfl, (Below.refl _ _).alloc (Nat.le_refl _) _⟩
set_option maxRecDepth 100000 in
set_option maxHeartbeats 1000000 in
theorem rstore_nw {pm : Value} {n a z : Int} (h : ∀ k : Nat, Wide k → n ≠ (k : Int)) (w : World) : Calls Tryz.prog 24 #[pm, .int .u64 a, .int .i64 n, .int .u64 z] w fun e w' => e = .returned (FaultV 31 a) ∧ Below w.heap.size w w' := by
  have HRt : Hid (∀ W, Calls Tryz.prog 49 #[.int .i64 n] W fun e w' => e = .returned (.bool false) ∧ w' = W) := right_nw h
  clear h
  unfold FaultV
  obtain ⟨s0, s1, _, _⟩ := (BoxG.new w 31 a).cells
  go_enter Tryz.func24, Tryz.ntmps24
  go_wp2_with (go_at_call 49; refine (HRt.out _).mono ?_; rintro e w' ⟨rfl, hw⟩; have hw := hw.symm; subst hw)
  refine bodyPost_ret (v := .agg #[.int .i64 31, .int .u64 a]) (by simp [results, Tryz.results24, go_sem, s0, s1]) rfl ?_
  exact ⟨rfl, (Below.refl _ _).alloc (Nat.le_refl _) _⟩
set_option maxRecDepth 100000 in
set_option maxHeartbeats 1000000 in
theorem rread_neg {pm : Value} {n a : Int} (h : n < 0) (w : World) : Calls Tryz.prog 55 #[pm, .int .u64 a, .int .i64 n] w fun e w' => e = .returned (.tuple #[.slice none 0 0, FaultV 1 a]) ∧ Below w.heap.size w w' := by
  unfold FaultV
  obtain ⟨s0, s1, _, _⟩ := (BoxG.new w 1 a).cells
  go_enter Tryz.func55, Tryz.ntmps55
  go_wp2_with fail
  refine bodyPost_ret (v := .tuple #[.slice none 0 0, .agg #[.int .i64 1, .int .u64 a]]) (by simp [results, Tryz.results55, go_sem, s0, s1]) rfl ?_
  exact ⟨rfl, (Below.refl _ _).alloc (Nat.le_refl _) _⟩
set_option maxRecDepth 100000 in
set_option maxHeartbeats 1000000 in
theorem rfill_neg {pm : Value} {n a z : Int} (h : n < 0) (w : World) : Calls Tryz.prog 28 #[pm, .int .u64 a, .int .i64 n, .int .u8 z] w fun e w' => e = .returned (FaultV 1 a) ∧ Below w.heap.size w w' := by
  unfold FaultV
  obtain ⟨s0, s1, _, _⟩ := (BoxG.new w 1 a).cells
  go_enter Tryz.func28, Tryz.ntmps28
  go_wp2_with fail
  refine bodyPost_ret (v := .agg #[.int .i64 1, .int .u64 a]) (by simp [results, Tryz.results28, go_sem, s0, s1]) rfl ?_
  exact ⟨rfl, (Below.refl _ _).alloc (Nat.le_refl _) _⟩
set_option maxRecDepth 100000 in
set_option maxHeartbeats 1000000 in
theorem rload_nw {pm : Value} {n a : Int} (h : ∀ k : Nat, Wide k → n ≠ (k : Int)) (w : World) : Calls Tryz.prog 19 #[pm, .int .u64 a, .int .i64 n] w fun e w' => e = .returned (.tuple #[.int .u64 0, FaultV 31 a]) ∧ Below w.heap.size w w' := by
  have HPk : Hid (∀ W, Calls Tryz.prog 22 #[pm, .int .u64 a, .int .i64 n] W fun e w' => e = .returned (.tuple #[.int .u64 0, FaultV 31 a]) ∧ Below W.heap.size W w') := rpeek_nw h
  clear h
  unfold FaultV at HPk ⊢
  go_enter Tryz.func19, Tryz.ntmps19
  go_wp2_with fail
  refine (HPk.out _).mono ?_
  rintro e w1 ⟨rfl, hb1⟩
  have HX1 : Hid (BoxG w1 w.heap.size 0 0) := (BoxG.new w 0 0).below hb1
  have HB1 : Hid (Below w.heap.size w w1) := ((Below.refl _ _).alloc (Nat.le_refl _) _).trans (hb1.mono (by simp))
  have hne : w.heap.size ≠ w1.heap.size := Nat.ne_of_lt HX1.out.lt
  have hlt1 := HX1.out.lt
  clear hb1 HPk
  go_wp2_with fail
  obtain ⟨W2, hW2⟩ : ∃ W2, w1.alloc (Obj.cells #[.int .i64 31, .int .u64 a] 75) = W2 := ⟨_, rfl⟩
  have HF2 : Hid (BoxG W2 w1.heap.size 31 a) := hW2 ▸ BoxG.new w1 31 a
  have HX2 : Hid (BoxG W2 w.heap.size 0 0) := hW2 ▸ HX1.out.below ((Below.refl _ _).alloc (Nat.le_refl _) _)
  have HB2 : Hid (Below w1.heap.size w1 W2) := hW2 ▸ (Below.refl _ _).alloc (Nat.le_refl _) _
  rw [hW2]
  obtain ⟨x0, x1, f0, f1⟩ := HX2.out.cells
  obtain ⟨y0, y1, _, _⟩ := HF2.out.cells
  clear hW2
  go_region_held3 (fun w' => w'.cell? ⟨w1.heap.size, 0, none⟩ = some (.int .i64 31) ∧ w'.cell? ⟨w1.heap.size, 1, none⟩ = some (.int .u64 a)) (go_keep) (fail)
  go_wp2_with fail
  obtain ⟨d0, d1, _⟩ := BoxG.cells (w := ((W2.setCell ⟨w.heap.size, 0, none⟩ (.int .i64 31)).setCell ⟨w.heap.size, 1, none⟩ (.int .u64 a)).drew) (HX2.out.set 31 a)
  refine bodyPost_ret (v := .tuple #[.int .u64 0, .agg #[.int .i64 31, .int .u64 a]]) (by simp [results, Tryz.results19, go_sem, d0, d1]) rfl ?_
  exact ⟨rfl, (HB1.out.trans (HB2.out.mono HB1.out.size)).trans (Keeps.below (Keeps.two W2 w.heap.size (.int .i64 31) (.int .u64 a)).drew (Nat.le_trans HB1.out.size HB2.out.size) (fun i _ e => by omega))⟩
end Go.Proofs.YtddgoncbdlhhhaaGreat
