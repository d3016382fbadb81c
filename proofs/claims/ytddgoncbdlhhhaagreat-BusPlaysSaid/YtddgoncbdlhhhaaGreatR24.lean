import Derived.Test.YtddgoncbdlhhhaaGreatR23
import Derived.Test.YtddgoncbdlhhhaaGreatR22
import Derived.Test.YtddgoncbdlhhhaaGreatR16
import Derived.Test.YtddgoncbdlhhhaaGreatR19
import Derived.Handy
import Derived.LoopN
/- The document's own machine with pages: its lay, and what lies there then. Own work. -/
namespace Go.Proofs.YtddgoncbdlhhhaaGreat
open Go.RowKit Go.Maps Go.Proofs.YtddgoncbdlhhhaaGreat.Sp Wk
theorem putAt_step (M : Nat → Nat) (a : Nat) (xs : List Nat) (s : Nat) (h : s < xs.length) : putAt (putAt M a (xs.take s)) (a + s) [xs.getD s 0] = putAt M a (xs.take (s + 1)) := by
  have e : (xs.take s).length = s := by rw [List.length_take]; omega
  have := putAt_append M a (xs.take s) [xs.getD s 0]
  rw [e] at this
  rw [this, List.take_add_one, List.getElem?_eq_getElem h, List.getD_eq_getElem?_getD, List.getElem?_eq_getElem h]
  rfl
/-- what lay keeps: s bytes are laid -/
def LayM (w0 w : World) (base v : Nat) (vr vd : Value) (L S X gb : Nat) (xs : List Nat) (M : Nat → Nat) (a s : Nat) (vp : Value) (ps : List (Int × Nat)) : Prop := RM w base v vr vd vp ps (putAt M a (xs.take s)) L S X ∧ P8 w gb xs.length (fun i => xs.getD i 0) ∧ Kv base w0 w ∧ (∀ x ∈ ps, x.2 ≠ gb) ∧ base ≤ w.heap.size
theorem LayM.write {w0 w : World} {base v : Nat} {vr vd vp : Value} {L S X gb a s : Nat} {xs : List Nat} {M : Nat → Nat} {ps : List (Int × Nat)} (h : LayM w0 w base v vr vd L S X gb xs M a s vp ps) {x : Int × Nat} (hx : x ∈ ps) {t : Nat} (ht : t < 4096) (hs : s < xs.length) (hz : ∀ z ∈ xs, z < 256) (he : x.1.toNat * 4096 + t = a + s) : LayM w0 (w.setCell ⟨x.2, t, none⟩ (.int .u8 ((xs.getD s 0 : Nat) : Int))) base v vr vd L S X gb xs M a (s + 1) vp ps := by
  have hzs : xs.getD s 0 < 256 := by
    rw [List.getD_eq_getElem?_getD, List.getElem?_eq_getElem hs]
    exact hz _ (List.getElem_mem hs)
  have h1 := h.1.write hx ht hzs
  rw [he, putAt_step M a xs s hs] at h1
  refine ⟨h1, h.2.1.keeps (Keeps.setCell w x.2 t _) (fun e => h.2.2.2.1 x hx e.symm), h.2.2.1.trans (Kv.of (Keeps.setCell w x.2 t _) (fun k _ e => ?_)), h.2.2.2.1, Nat.le_trans h.2.2.2.2 (Keeps.setCell w x.2 t (.int .u8 ((xs.getD s 0 : Nat) : Int))).size⟩
  have e : k = x.2 := e
  subst e
  obtain ⟨hb, cur, hc, _⟩ := h.1.2.2.2.1 x hx
  exact ⟨hb, cur, _, _, hc, .inr (.inr rfl)⟩
set_option maxRecDepth 100000 in
set_option maxHeartbeats 2000000 in
theorem rlay_at {w : World} {base v : Nat} {vr vd vp : Value} {ps : List (Int × Nat)} {M : Nat → Nat} {L S X a n gb cb : Nat} {xs : List Nat} (h : RM w base v vr vd vp ps M L S X) (hb : base ≤ w.heap.size) (hB : P8 w gb xs.length (fun i => xs.getD i 0)) (hnb : ∀ x ∈ ps, x.2 ≠ gb) (hxl : xs.length = n) (hxs : ∀ z ∈ xs, z < 256) (hn : n ≤ 8) (hcb : n ≤ cb) (ha : a + n ≤ 4294967400) :
    Calls Tryz.prog 54 #[.pointer (some ⟨v, 0, none⟩), .int .u64 (a : Int), .slice (some ⟨gb, 0, none⟩) n cb, .int .i64 (n : Int), .int .u8 0] w fun e w' => e = .returned (.tuple #[]) ∧ ∃ vp' ps', RM w' base v vr vd vp' ps' (putAt M a xs) L S X ∧ Kv base w w' := by
  have HI0 : Hid (∃ vp' ps', LayM w w base v vr vd L S X gb xs M a 0 vp' ps') := ⟨vp, ps, by rw [List.take_zero, putAt_nil]; exact h, hB, Kv.refl _ _, hnb, hb⟩
  have HXl := Lib.hid hxl
  have HXs := Lib.hid hxs
  have hgb := hB.lt
  clear h hB hb hnb hxl hxs
  have hmk : ∀ W : World, (Instr.makeSlice 27 (.int .i64 4096) (.int .i64 4096)).run Tryz.prog W = .ok (.slice (some ⟨W.heap.size, 0, none⟩) 4096 4096) (W.alloc (.cells zc 5)) := make_page
  go_enter Tryz.func54, Tryz.ntmps54
  go_wp2_with fail
  go_loopw [10] (fun iv wr => ∃ i : Nat, i ≤ n ∧ iv = .int .i64 (i : Int) ∧ Hid (∃ vp' ps', LayM w wr base v vr vd L S X gb xs M a i vp' ps')) (fun iv _ => n - (intOf iv).toNat)
  case atStart => exact ⟨0, Nat.zero_le _, rfl, HI0⟩
  case round =>
    obtain ⟨i, hi, rfl, HI⟩ := hrel
    by_cases hlt : i < n
    · obtain ⟨vp1, ps1, HI1⟩ := HI.out
      have HL := Lib.hid HI1
      clear HI1 HI HI0
      have qi : (i : Int) < (n : Int) := by omega
      have hai : (a : Int) + (i : Int) ≤ 18446744073709551615 := by omega
      obtain ⟨fr, hfr, hfr2⟩ : ∃ fr : Nat, ((a : Int) + (i : Int)) % 4096 = (fr : Int) ∧ fr < 4096 := ⟨(a + i) % 4096, by omega, by omega⟩
      obtain ⟨pg, hpg⟩ : ∃ pg : Nat, ((a : Int) + (i : Int)) / 4096 = (pg : Int) := ⟨(a + i) / 4096, by omega⟩
      have hw1 : IntKind.u64.wrap ((a : Int) + (i : Int)) = (a : Int) + (i : Int) := by rw [IntKind.wrap_u64]; omega
      have HF : Hid (Calls Tryz.prog 87 #[.pointer (some ⟨v, 0, none⟩), .int .u64 (pg : Int)] wr fun e w' => ∃ j : Int, e = .returned (.int .i64 j) ∧ Hid ((j = -1 ∧ ∀ x ∈ ps1, x.1 ≠ (pg : Int)) ∨ ∃ i : Nat, j = (i : Int) ∧ ∃ hi : i < ps1.length, (ps1[i]'hi).1 = (pg : Int)) ∧ wr = w') := rfind_at HL.out.1.rs (by have := HL.out.1.pn.len; omega)
      obtain ⟨k, hk1, hk2, hk3, hkk⟩ : ∃ k : Nat, 1 ≤ k ∧ k ≤ n - i ∧ k + fr ≤ 4096 ∧ Hid ((decide ((k : Int) < 4096 - (fr : Int)) = true ∧ (n : Int) - (i : Int) = (k : Int)) ∨ (decide ((n : Int) - (i : Int) < (k : Int)) = false ∧ (4096 : Int) - (fr : Int) = (k : Int))) := by
        by_cases hc : n - i < 4096 - fr
        · exact ⟨n - i, by omega, by omega, by omega, .inl ⟨by simp; omega, by omega⟩⟩
        · exact ⟨4096 - fr, by omega, by omega, by omega, .inr ⟨by simp; omega, by omega⟩⟩
      go_upto_if 31 with fail
      go_cut [12] (fun s wx => s = .int .i64 (k : Int) ∧ wx = wr)
      case first =>
        rcases hkk.out with ⟨hci, hk⟩ | ⟨hci, hk⟩
        · have hcp : (n : Int) - (i : Int) < 4096 - (fr : Int) := by rw [hk]; exact of_decide_eq_true hci
          clear hci
          rw [hk] at hcp
          go_wp2_with fail
          go_meet
          exact ⟨rfl, rfl⟩
        · have hcp : ¬ (n : Int) - (i : Int) < (k : Int) := of_decide_eq_false hci
          clear hci
          go_wp2_with fail
          go_meet
          exact ⟨rfl, rfl⟩
      case rest =>
        obtain ⟨rfl, rfl⟩ := hcut
        clear hkk
        go_wp2_with fail
        refine HF.out.mono ?_
        rintro e w1 ⟨j, rfl, hj, rfl⟩
        clear HF
        go_upto_region 7 with fail
        go_cut [51] (fun s wx => s = .bool (decide (j < 0)) ∧ wx = wc)
        case first =>
          rcases hj.out with ⟨rfl, hjx⟩ | ⟨j0, rfl, hj0, hj1⟩
          · go_wp2_with fail
            go_meet
            exact ⟨rfl, rfl⟩
          · have hjn : decide ((j0 : Int) < 0) = false := by simp
            go_wp2_with fail
            go_meet
            exact ⟨by go_num, rfl⟩
        case rest =>
          obtain ⟨rfl, hwc⟩ := hcut
          subst hwc
          go_upto_if 51 with fail
          go_cut [13] (fun s wx => ∃ (jj : Nat) (vp2 : Value) (ps2 : List (Int × Nat)), s = .int .i64 (jj : Int) ∧ Hid (∃ hi : jj < ps2.length, (ps2[jj]'hi).1 = (pg : Int)) ∧ Hid (LayM w wx base v vr vd L S X gb xs M a i vp2 ps2))
          case first =>
            rcases hj.out with ⟨rfl, hjx⟩ | ⟨j0, rfl, hj0, hj1⟩
            · clear hj
              have HJX := Lib.hid hjx
              clear hjx
              obtain ⟨c0, c1, c2, _⟩ := HL.out.1.2.1.cells
              have hvl := HL.out.1.2.1.lt
              have hv1 : v ≠ wc.heap.size := by omega
              have hv2 : v ≠ wc.heap.size + 1 := by omega
              obtain ⟨a1, cc, hvp, hc1, hc2, _⟩ := HL.out.1.2.2.1.form
              unfold maxLen at hc2
              obtain ⟨n1, hn1⟩ : ∃ n1, n1 = ps1.length := ⟨_, rfl⟩
              have HN1 : Hid (n1 = ps1.length) := hn1
              rw [← hn1] at hvp hc1
              have hn1l : n1 ≤ 2097153 := by rw [HN1.out]; exact HL.out.1.pn.len
              subst hvp
              clear hn1
              have HO : Hid (OwnP (W2 wc (pg : Int)) base (.slice a1 n1 cc) ps1) := HL.out.1.2.2.1.keeps (W2.keeps wc (pg : Int)) (fun _ _ e => e)
              have HC : Hid ((W2 wc (pg : Int)).cell? ⟨wc.heap.size + 1, 0, none⟩ = some (.int .u64 (pg : Int)) ∧ (W2 wc (pg : Int)).cell? ⟨wc.heap.size + 1, 1, none⟩ = some (.slice (some ⟨wc.heap.size, 0, none⟩) 4096 4096)) := W2.cells wc (pg : Int)
              have HA : Hid (∀ v2 w2, OwnP w2 base v2 (ps1 ++ [((pg : Int), wc.heap.size)]) → (W2 wc (pg : Int)).grownBy w2 (Value.slice a1 n1 cc).ownBlock → LayM w (w2.setCell ⟨v, 2, none⟩ v2) base v vr vd L S X gb xs M a i v2 (ps1 ++ [((pg : Int), wc.heap.size)]) ∧ w2.cell? ⟨v, 2, none⟩ = some (.slice a1 n1 cc) ∧ w2.frozen? ⟨v, 2, none⟩ = false) := fun v2 w2 ho hg => by
                obtain ⟨r1, r2, r3, r4, r5, r6⟩ := HL.out.1.app HL.out.2.2.2.2 pg (by omega) HJX.out ho hg
                refine ⟨⟨r1, r3 _ _ _ HL.out.2.1, HL.out.2.2.1.trans r2, fun x hx => ?_, r6⟩, r4, r5⟩
                rcases List.mem_append.1 hx with hx | hx
                · exact HL.out.2.2.2.1 x hx
                · rw [List.mem_singleton.1 hx]
                  have := HL.out.2.1.lt
                  show wc.heap.size ≠ gb
                  omega
              have HBs : Hid (base ≤ (W2 wc (pg : Int)).heap.size) := Nat.le_trans HL.out.2.2.2.2 (W2.keeps wc (pg : Int)).size
              have hw0 : IntKind.u64.wrap (i : Int) = (i : Int) := by rw [IntKind.wrap_u64]; omega
              have hw2 : IntKind.u64.wrap (((a : Int) + (i : Int)).tdiv 4096) = (pg : Int) := by rw [Int.tdiv_eq_ediv_of_nonneg (by omega), hpg, IntKind.wrap_u64]; omega
              have HLn : Hid (ps1.length ≤ 1099511627776) := by show _ ≤ _; rw [← HN1.out]; omega
              go_wp2_with fail
              go_region_law (refine step_appP (base := base) (v := .slice a1 n1 cc) (ps := ps1) (x := ((pg : Int), wc.heap.size)) (by kernel_rfl) (.tmp 61) (.tmp 69) (by rfl) (by rfl) (by exact HO.out) (by rfl) (by exact HC.out.1) (by exact HC.out.2) HLn.out (by exact HBs.out) ?_; intro va vn vc w2 ho hg; obtain ⟨hl2, hc2, hf2⟩ := HA.out _ w2 ho hg; have HL2 := Lib.hid hl2; clear hl2 ho hg)
              all_goals
                go_wp2_with fail
                go_meet
                exact ⟨n1, _, _, rfl, ⟨by rw [HN1.out, List.length_append]; exact Nat.lt_succ_self _, by simp [HN1.out]⟩, HL2⟩
            · clear hj
              have HJ : Hid (∃ hi : j0 < ps1.length, (ps1[j0]'hi).1 = (pg : Int)) := ⟨hj0, hj1⟩
              clear hj0 hj1
              have HL2 : Hid (LayM w wc base v vr vd L S X gb xs M a i vp1 ps1) := HL.out
              go_wp2_with fail
              go_meet
              exact ⟨j0, _, _, rfl, HJ, HL2⟩
          case rest =>
            obtain ⟨jj, vp2, ps2, rfl, HJ, HL2⟩ := hcut
            clear hj HL
            have jj0 : (0 : Int) ≤ (jj : Int) := Int.natCast_nonneg _
            go_wp2_with fail
            go_loopw [14] (fun qv wq => ∃ q : Nat, q ≤ k ∧ qv = .int .i64 (q : Int) ∧ Hid (LayM w wq base v vr vd L S X gb xs M a (i + q) vp2 ps2)) (fun qv _ => k - (intOf qv).toNat)
            case atStart => exact ⟨0, Nat.zero_le _, rfl, HL2⟩
            case round =>
              obtain ⟨q, hq, rfl, HQ⟩ := hrel
              by_cases hqk : q < k
              · have qki : (q : Int) < (k : Int) := by omega
                obtain ⟨c0, c1, c2, _⟩ := HQ.out.1.2.1.cells
                obtain ⟨a1, cc, hvp, hc1, hc2, _⟩ := HQ.out.1.2.2.1.form
                unfold maxLen at hc2
                obtain ⟨n1, hn1⟩ : ∃ n1, n1 = ps2.length := ⟨_, rfl⟩
                have HN1 : Hid (n1 = ps2.length) := hn1
                rw [← hn1] at hvp hc1
                have hjn : jj < n1 := by rw [HN1.out]; exact HJ.out.1
                subst hvp
                clear hn1
                obtain ⟨g, rfl, d0, cq, d1⟩ := HQ.out.1.2.2.1.cell jj HJ.out.1
                obtain ⟨X0, hX0⟩ : ∃ X0, X0 = ps2[jj]'HJ.out.1 := ⟨_, rfl⟩
                rw [← hX0] at d0 d1
                have HXM : Hid (X0 ∈ ps2) := hX0 ▸ List.getElem_mem HJ.out.1
                have HX1 : Hid (X0.1 = (pg : Int)) := hX0 ▸ HJ.out.2
                clear hX0
                obtain ⟨_, hxu⟩ := HQ.out.1.2.2.2.1 X0 HXM.out
                have HXU := Lib.hid hxu
                obtain ⟨x, hx⟩ : ∃ x, x = X0.2 := ⟨_, rfl⟩
                have HX2 : Hid (x = X0.2) := hx
                rw [← hx] at d1 HXU
                clear hx hxu
                obtain ⟨s, hs, hs2⟩ : ∃ s : Nat, (i : Int) + (q : Int) = (s : Int) ∧ s < n := ⟨i + q, by omega, by omega⟩
                obtain ⟨t, ht, ht2⟩ : ∃ t : Nat, (fr : Int) + (q : Int) = (t : Int) ∧ t < 4096 := ⟨fr + q, by omega, by omega⟩
                have hcz := HQ.out.2.1.cell s (by rw [HXl.out]; exact hs2)
                obtain ⟨y, hcy⟩ : ∃ y : Nat, wr.cell? ⟨x, t, none⟩ = some (.int .u8 (y : Int)) := ⟨_, HXU.out.cell t ht2⟩
                have hfz := HXU.out.thawed t
                have HW : Hid (LayM w (wr.setCell ⟨x, t, none⟩ (.int .u8 ((xs.getD s 0 : Nat) : Int))) base v vr vd L S X gb xs M a (i + (q + 1)) (.slice (some ⟨g, 0, none⟩) n1 cc) ps2) := by
                  rw [HX2.out, show i + (q + 1) = s + 1 by omega]
                  exact LayM.write (by rw [show s = i + q by omega]; exact HQ.out) HXM.out ht2 (by rw [HXl.out]; exact hs2) HXs.out (by rw [HX1.out]; omega)
                generalize xs.getD s 0 = z at hcz HW
                go_wp2_with fail
                exact ⟨⟨q + 1, by omega, by go_num, HW⟩, by simp [intOf]; omega⟩
              · go_wp2_with fail
                refine ⟨⟨i + k, by omega, by go_num, ?_⟩, by simp [intOf]; omega⟩
                obtain rfl : q = k := by omega
                exact ⟨_, _, HQ.out⟩
    · obtain rfl : i = n := by omega
      go_wp2_with fail
      go_end0
      obtain ⟨vp1, ps1, h1⟩ := HI.out
      have h2 := h1.1
      rw [List.take_of_length_le (by rw [HXl.out]; exact Nat.le_refl _)] at h2
      exact ⟨rfl, vp1, ps1, h2, h1.2.2.1⟩
end Go.Proofs.YtddgoncbdlhhhaaGreat
/- The document's own access; its Load of a byte where nothing was laid. Own work. -/
namespace Go.Proofs.YtddgoncbdlhhhaaGreat
open Go.RowKit Go.Maps Go.Proofs.YtddgoncbdlhhhaaGreat.Sp
/-- the document's own Fault in its box -/
def BoxG (w : World) (b : Nat) (x y : Int) : Prop := w.heap[b]? = some (.cells #[.int .i64 x, .int .u64 y] 75 (0, 0))
theorem BoxG.cells {w : World} {b : Nat} {x y : Int} (h : BoxG w b x y) : w.cell? ⟨b, 0, none⟩ = some (.int .i64 x) ∧ w.cell? ⟨b, 1, none⟩ = some (.int .u64 y) ∧ w.frozen? ⟨b, 0, none⟩ = false ∧ w.frozen? ⟨b, 1, none⟩ = false := by
  refine ⟨?_, ?_, by simp [World.frozen?, show w.heap[b]? = _ from h], by simp [World.frozen?, show w.heap[b]? = _ from h]⟩ <;> rw [cell_of_row w b _ _ _ _ h] <;> rfl
theorem BoxG.set {w : World} {b : Nat} {x y : Int} (h : BoxG w b x y) (x' y' : Int) : BoxG ((w.setCell ⟨b, 0, none⟩ (.int .i64 x')).setCell ⟨b, 1, none⟩ (.int .u64 y')) b x' y' := by
  have h' : w.heap[b]? = _ := h
  simp [BoxG, World.setCell, Array.getElem?_modify, h']
theorem BoxG.lt {w : World} {b : Nat} {x y : Int} (h : BoxG w b x y) : b < w.heap.size := (Array.getElem?_eq_some_iff.1 h).1
theorem BoxG.below {w w' : World} {b : Nat} {x y : Int} (h : BoxG w b x y) (hb : Below w.heap.size w w') : BoxG w' b x y := (hb.block b h.lt).trans h
theorem BoxG.keeps {Z : Nat → Prop} {w w' : World} {b : Nat} {x y : Int} (h : BoxG w b x y) (hk : Keeps Z w w') (hn : ¬ Z b) : BoxG w' b x y := (hk.block b h.lt hn).trans h
theorem BoxG.new (w : World) (x y : Int) : BoxG (w.alloc (Obj.cells #[.int .i64 x, .int .u64 y] 75)) w.heap.size x y := heap_alloc_new w _
/-- what the document's own access answers -/
def RAsk (w : World) (m : Nat) (vr vd vp : Value) (LL : List Sp) (L S X a n : Nat) (e : Ending) (w' : World) : Prop :=
  ∃ x b, OffR LL a n x b ∧ e = .returned (FaultV (if b then 30 else 0) x) ∧ RBox w' m vr vd vp L S (up b X) ∧ Keeps (fun j => j = m) w w'
set_option maxRecDepth 100000 in
set_option maxHeartbeats 4000000 in
theorem raccess_any {w : World} {m : Nat} {vr vd vp : Value} {rs ds : List Sp} {L S X a n : Nat} (h : RBox w m vr vd vp L S X) (hr : U64.SV w vr rs) (hd : U64.SV w vd ds) (hs : Sane (rs ++ ds)) (hl : rs.length + ds.length ≤ 64) (ha : a ≤ 18446744073709551615) (hn : n ≤ 9223372036854775807) (hX : X ≤ 4611686018427387904) :
    Calls Tryz.prog 50 #[.pointer (some ⟨m, 0, none⟩), .int .u64 (a : Int), .int .i64 (n : Int)] w (RAsk w m vr vd vp (rs ++ ds) L S X a n) := by
  have HM : Hid (RBox w m vr vd vp L S X) := h
  have HO : Hid (∀ W, Below w.heap.size w W → Calls Tryz.prog 86 #[.pointer (some ⟨m, 0, none⟩), .int .u64 (a : Int), .int .i64 (n : Int)] W fun e w' => OffE (rs ++ ds) a n e ∧ Below W.heap.size W w') := fun W hW => roff_any (h.below hW) (hr.below hW (Nat.le_refl _)) (hd.below hW (Nat.le_refl _)) hs hl ha hn
  generalize rs ++ ds = LL at *
  clear h hr hd hs hl
  go_enter Tryz.func50, Tryz.ntmps50
  go_wp2_with fail
  refine (HO.out _ ((Below.refl _ _).alloc (Nat.le_refl _) _)).mono ?_
  rintro e w1 ⟨⟨x, b, rfl, ho⟩, hb1⟩
  have HOff : Hid (OffR LL a n x b) := ho
  have HB1 : Hid (Below w.heap.size w w1) := ((Below.refl _ _).alloc (Nat.le_refl _) _).trans (hb1.mono (by simp))
  have HX1 : Hid (BoxG w1 w.heap.size 0 0) := (BoxG.new w 0 0).below hb1
  have HM1 : Hid (RBox w1 m vr vd vp L S X) := HM.out.below HB1.out
  obtain ⟨x0, x1, f0, f1⟩ := HX1.out.cells
  obtain ⟨_, _, _, _, _, c5⟩ := HM1.out.cells
  have g5 := HM1.out.thawed 5
  have hml := HM.out.lt
  clear ho hb1 HO
  cases b with
  | false =>
    go_wp2_with fail
    obtain ⟨d0, d1, _⟩ := (HX1.out.set 0 0).cells
    refine bodyPost_ret (v := .agg #[.int .i64 0, .int .u64 0]) (by simp [results, Tryz.results50, go_sem, d0, d1]) rfl ?_
    have hb2 := (HB1.out.setCell (p := ⟨w.heap.size, 0, none⟩) (Nat.le_refl _) (.int .i64 0)).setCell (p := ⟨w.heap.size, 1, none⟩) (Nat.le_refl _) (.int .u64 0)
    refine ⟨x, false, HOff.out, ?_, HM.out.below hb2, Keeps.of_below hb2⟩
    rw [(HOff.out.2 rfl).1]
    rfl
  | true =>
    have hb3 : BoxG (w1.setCell ⟨m, 5, none⟩ (.int .i64 ((X : Int) + 1))) w.heap.size 0 0 := HX1.out.keeps (Keeps.setCell _ _ _ _) (by omega)
    have HX3 : Hid (BoxG (w1.setCell ⟨m, 5, none⟩ (.int .i64 ((X : Int) + 1))) w.heap.size 0 0) := hb3
    obtain ⟨y0, y1, k0, k1⟩ := hb3.cells
    clear hb3
    go_wp2_with fail
    obtain ⟨d0, d1, _⟩ := (HX3.out.set 30 x).cells
    refine bodyPost_ret (v := .agg #[.int .i64 30, .int .u64 x]) (by simp [results, Tryz.results50, go_sem, d0, d1]) rfl ?_
    have hk : Keeps (fun j => j = m) w (((w1.setCell ⟨m, 5, none⟩ (.int .i64 ((X : Int) + 1))).setCell ⟨w.heap.size, 0, none⟩ (.int .i64 30)).setCell ⟨w.heap.size, 1, none⟩ (.int .u64 x)) :=
      (((Keeps.of_below (S := fun j => j = m) HB1.out).trans (Keeps.setCell _ _ _ _) (fun _ _ e => e)).trans (Keeps.setCell _ _ _ _) (fun i hi e => absurd e (by omega))).trans (Keeps.setCell _ _ _ _) (fun i hi e => absurd e (by omega))
    refine ⟨x, true, HOff.out, rfl, ?_, hk⟩
    unfold RBox
    rw [Below.heap_setCell _ _ _ _ (show m ≠ w.heap.size by omega), Below.heap_setCell _ _ _ _ (show m ≠ w.heap.size by omega)]
    have h1 : w1.heap[m]? = _ := HM1.out
    simp only [World.setCell, Array.getElem?_modify]
    rw [if_pos trivial, h1]
    simp [up]
set_option maxHeartbeats 1000000 in
theorem rfind_none {w : World} {m : Nat} {vr vd : Value} {L S X : Nat} {k : Int} (h : RBox w m vr vd (.slice none 0 0) L S X) : Calls Tryz.prog 87 #[.pointer (some ⟨m, 0, none⟩), .int .u64 k] w fun e w' => e = .returned (.int .i64 (-1)) ∧ w' = w := by
  obtain ⟨_, _, c2, _, _, _⟩ := h.cells
  clear h
  go_enter Tryz.func87, Tryz.ntmps87
  go_wp2_with fail
  refine wp_loop_rounds 1 ?_
  rw [rounds_succ]
  go_wp2_with fail
  go_ret
  exact ⟨rfl, rfl⟩
set_option maxHeartbeats 1000000 in
theorem right_one (w : World) : Calls Tryz.prog 49 #[.int .i64 1] w fun e w' => e = .returned (.bool true) ∧ w' = w := by
  go_enter Tryz.func49, Tryz.ntmps49
  go_wp2_with fail
  go_ret
  exact ⟨rfl, rfl⟩
set_option maxRecDepth 100000 in
set_option maxHeartbeats 4000000 in
theorem rbytes_one {w : World} {m : Nat} {vr vd : Value} {L S X : Nat} {a : Int} (h : RBox w m vr vd (.slice none 0 0) L S X) (ha : 0 ≤ a ∧ a ≤ 4294967296) :
    Calls Tryz.prog 51 #[.pointer (some ⟨m, 0, none⟩), .int .u64 a, .int .i64 1] w fun e w' => ∃ g c, e = .returned (.slice (some ⟨g, 0, none⟩) 1 c) ∧ w'.cell? ⟨g, 0, none⟩ = some (.int .u8 0) ∧ Below w.heap.size w w' := by
  obtain ⟨i, hi, hz0, hz1, hz2⟩ := info_parts info_byte
  obtain ⟨a0, a1⟩ := ha
  have HM := Lib.hid h
  have m0 : 0 ≤ a % 4096 := by omega
  have m1 : a % 4096 ≤ 4095 := by omega
  go_enter Tryz.func51, Tryz.ntmps51
  go_wp2_with (at_make; refine wpList_make_full _ rfl _ _ 27 rfl w.heap.size 5 i (.int .u8 0) 1 Tryz.underlying27 hi hz0 hz1 _ _ _ _ 1 rfl rfl (by omega) (by omega) (by rw [hz2]; omega) (by simp only [maxLen]; omega) (by simp) ?_)
  intro w1 hown hgrow
  have HB1 : Hid (Below w.heap.size w w1) := (Below.refl _ _).grown hgrow (by simp) (by simp)
  have HC1 : Hid (w1.cell? ⟨w.heap.size, 0, none⟩ = some (.int .u8 0)) := by
    rcases hown.2 with ⟨hc, _⟩ | ⟨g', cap, cur, hv, _, hg, _, _, hs, ht⟩
    · cases hc
    · cases hv
      show _ = _
      rw [cell_of_row _ _ _ _ _ _ hg]
      have h0 : cur.toList[0]? = some (.int .u8 0) := by
        rw [List.take_of_length_le (by simp [hs])] at ht
        rw [ht]
        simp [madeCells]
      rw [← Array.getElem?_toList]
      exact h0
  have HF := Lib.hid (fun k => rfind_none (k := k) (HM.out.below HB1.out))
  clear hown hgrow h hi hz0 hz1 hz2
  go_wp2_with fail
  refine wp_loop_rounds 2 ?_
  rw [rounds_succ]
  by_cases hk : 1 < 4096 - a % 4096
  · have hkd : decide (1 < 4096 - a % 4096) = true := decide_eq_true hk
    go_wp2_with (go_at_call 87; refine (HF.out _).mono ?_; rintro e w' ⟨rfl, hw⟩; have hw := hw.symm; subst hw)
    refine wp_loop_rounds 1 ?_
    rw [rounds_succ]
    go_wp2_with fail
    rw [rounds_succ]
    go_wp2_with fail
    go_ret
    exact ⟨w.heap.size, 1, rfl, HC1.out, HB1.out⟩
  · have hkd : decide (1 < 4096 - a % 4096) = false := decide_eq_false hk
    have hke : 4096 - a % 4096 = 1 := by omega
    go_wp2_with (go_at_call 87; refine (HF.out _).mono ?_; rintro e w' ⟨rfl, hw⟩; have hw := hw.symm; subst hw)
    refine wp_loop_rounds 1 ?_
    rw [rounds_succ]
    go_wp2_with fail
    rw [rounds_succ]
    go_wp2_with fail
    go_ret
    exact ⟨w.heap.size, 1, rfl, HC1.out, HB1.out⟩
/-- what the document's own Load of a byte answers where nothing was laid -/
def RLoad (w : World) (m : Nat) (vr vd : Value) (LL : List Sp) (L S X a : Nat) (d : Bool → Nat) (e : Ending) (w' : World) : Prop :=
  ∃ x b, OffR LL a 1 x b ∧ e = .returned (.tuple #[.int .u64 0, FaultV (if b then 30 else 0) x]) ∧ RBox w' m vr vd (.slice none 0 0) (L + d b) S (up b X) ∧ Keeps (fun j => j = m) w w'
theorem on_le {LL : List Sp} {a : Nat} (hs : Sane LL) (h : On LL ((a : Int) + (0 : Nat))) : (a : Int) ≤ 4294967296 := by
  obtain ⟨r, hr, h1, h2⟩ := h
  have := hs r hr
  omega
set_option maxRecDepth 100000 in
set_option maxHeartbeats 4000000 in
theorem rpeek_one {w : World} {m : Nat} {vr vd : Value} {rs ds : List Sp} {L S X a : Nat} (h : RBox w m vr vd (.slice none 0 0) L S X) (hr : U64.SV w vr rs) (hd : U64.SV w vd ds) (hs : Sane (rs ++ ds)) (hl : rs.length + ds.length ≤ 64) (ha : a ≤ 18446744073709551615) (hX : X ≤ 4611686018427387904) :
    Calls Tryz.prog 22 #[.pointer (some ⟨m, 0, none⟩), .int .u64 (a : Int), .int .i64 1] w (RLoad w m vr vd (rs ++ ds) L S X a (fun _ => 0)) := by
  have HM : Hid (RBox w m vr vd (.slice none 0 0) L S X) := h
  have HA : Hid (∀ W, Below w.heap.size w W → Calls Tryz.prog 50 #[.pointer (some ⟨m, 0, none⟩), .int .u64 (a : Int), .int .i64 1] W (RAsk W m vr vd (.slice none 0 0) (rs ++ ds) L S X a 1)) := fun W hW => raccess_any (n := 1) (h.below hW) (hr.below hW (Nat.le_refl _)) (hd.below hW (Nat.le_refl _)) hs hl ha (by omega) hX
  have HS : Hid (Sane (rs ++ ds)) := hs
  generalize rs ++ ds = LL at *
  have hml := h.lt
  clear h hr hd hs hl
  go_enter Tryz.func22, Tryz.ntmps22
  go_wp2_with (go_at_call 49; refine (right_one _).mono ?_; rintro e w' ⟨rfl, hw⟩; have hw := hw.symm; subst hw)
  refine (HA.out _ ((Below.refl _ _).alloc (Nat.le_refl _) _)).mono ?_
  rintro e w1 ⟨x, b, ho, rfl, hm1, hk1⟩
  have HOff : Hid (OffR LL a 1 x b) := ho
  have HX1 : Hid (BoxG w1 w.heap.size 0 0) := (BoxG.new w 0 0).keeps hk1 (by omega)
  have HM1 : Hid (RBox w1 m vr vd (.slice none 0 0) L S (up b X)) := hm1
  have HK1 : Hid (Keeps (fun j => j = m) w w1) := (Keeps.alloc (S := fun j => j = m) w _).trans hk1 (fun _ _ e => e)
  obtain ⟨x0, x1, f0, f1⟩ := HX1.out.cells
  have hne : w.heap.size ≠ w1.heap.size := Nat.ne_of_lt HX1.out.lt
  have hlt1 := HX1.out.lt
  have hml1 := HM1.out.lt
  clear ho hm1 hk1 HA
  unfold FaultV
  cases b with
  | true =>
    simp only [if_true]
    go_wp2_with fail
    obtain ⟨W2, hW2⟩ : ∃ W2, w1.alloc (Obj.cells #[.int .i64 30, .int .u64 x] 75) = W2 := ⟨_, rfl⟩
    have HF2 : Hid (BoxG W2 w1.heap.size 30 x) := hW2 ▸ BoxG.new w1 30 x
    have HX2 : Hid (BoxG W2 w.heap.size 0 0) := hW2 ▸ HX1.out.below ((Below.refl _ _).alloc (Nat.le_refl _) _)
    have HB2 : Hid (Below w1.heap.size w1 W2) := hW2 ▸ (Below.refl _ _).alloc (Nat.le_refl _) _
    rw [hW2]
    obtain ⟨x0, x1, f0, f1⟩ := HX2.out.cells
    obtain ⟨y0, y1, _, _⟩ := HF2.out.cells
    clear hW2
    go_region_held3 (fun w' => w'.cell? ⟨w1.heap.size, 0, none⟩ = some (.int .i64 30) ∧ w'.cell? ⟨w1.heap.size, 1, none⟩ = some (.int .u64 x)) (go_keep) (fail)
    go_wp2_with fail
    obtain ⟨d0, d1, _⟩ := BoxG.cells (w := ((W2.setCell ⟨w.heap.size, 0, none⟩ (.int .i64 30)).setCell ⟨w.heap.size, 1, none⟩ (.int .u64 x)).drew) (HX2.out.set 30 x)
    refine bodyPost_ret (v := .tuple #[.int .u64 0, .agg #[.int .i64 30, .int .u64 x]]) (by simp [results, Tryz.results22, go_sem, d0, d1]) rfl ?_
    have hk2 : Keeps (fun j => j = w.heap.size) W2 (((W2.setCell ⟨w.heap.size, 0, none⟩ (.int .i64 30)).setCell ⟨w.heap.size, 1, none⟩ (.int .u64 x)).drew) := (Keeps.two W2 w.heap.size (.int .i64 30) (.int .u64 x)).drew
    exact ⟨x, true, HOff.out, rfl, (HM1.out.below HB2.out).keeps hk2 (by omega), (HK1.out.trans (Keeps.of_below (S := fun _ => False) HB2.out) (fun _ _ h => h.elim)).trans hk2 (fun i hi e => absurd e (by omega))⟩
  | false =>
    simp only [Bool.false_eq_true, if_false]
    obtain ⟨hx0, hon⟩ := HOff.out.2 rfl
    subst hx0
    have hle := on_le HS.out (hon 0 (by omega))
    clear hon
    go_wp2_with fail
    obtain ⟨W2, hW2⟩ : ∃ W2, w1.alloc (Obj.cells #[.int .i64 0, .int .u64 0] 75) = W2 := ⟨_, rfl⟩
    have HF2 : Hid (BoxG W2 w1.heap.size 0 0) := hW2 ▸ BoxG.new w1 0 0
    have HX2 : Hid (BoxG W2 w.heap.size 0 0) := hW2 ▸ HX1.out.below ((Below.refl _ _).alloc (Nat.le_refl _) _)
    have HB2 : Hid (Below w1.heap.size w1 W2) := hW2 ▸ (Below.refl _ _).alloc (Nat.le_refl _) _
    try rw [hW2]
    have HBy := Lib.hid (rbytes_one (HM1.out.below HB2.out) ⟨by omega, hle⟩)
    clear hW2
    refine HBy.out.mono ?_
    rintro e w3 ⟨g, c, rfl, z0, hb3⟩
    have HB3 : Hid (Below W2.heap.size W2 w3) := hb3
    have HF3 : Hid (BoxG w3 w1.heap.size 0 0) := HF2.out.below hb3
    have HX3 : Hid (BoxG w3 w.heap.size 0 0) := HX2.out.below hb3
    clear hb3 HBy
    go_wp2_with fail
    refine wp_loop_rounds 2 ?_
    rw [rounds_succ]
    go_wp2_with fail
    rw [rounds_succ]
    obtain ⟨x0, x1, f0, f1⟩ := HX3.out.cells
    obtain ⟨y0, y1, _, _⟩ := HF3.out.cells
    go_wp2_with fail
    go_region_held3 (fun w' => w'.cell? ⟨w1.heap.size, 0, none⟩ = some (.int .i64 0) ∧ w'.cell? ⟨w1.heap.size, 1, none⟩ = some (.int .u64 0)) (go_keep) (fail)
    go_wp2_with fail
    obtain ⟨d0, d1, _⟩ := BoxG.cells (w := ((w3.setCell ⟨w.heap.size, 0, none⟩ (.int .i64 0)).setCell ⟨w.heap.size, 1, none⟩ (.int .u64 0)).drew) (HX3.out.set 0 0)
    refine bodyPost_ret (v := .tuple #[.int .u64 0, .agg #[.int .i64 0, .int .u64 0]]) (by simp [results, Tryz.results22, go_sem, d0, d1]) rfl ?_
    have hk2 : Keeps (fun j => j = w.heap.size) w3 (((w3.setCell ⟨w.heap.size, 0, none⟩ (.int .i64 0)).setCell ⟨w.heap.size, 1, none⟩ (.int .u64 0)).drew) := (Keeps.two w3 w.heap.size (.int .i64 0) (.int .u64 0)).drew
    have hb13 : Below w1.heap.size w1 w3 := HB2.out.trans (HB3.out.mono HB2.out.size)
    exact ⟨0, false, HOff.out, rfl, (HM1.out.below hb13).keeps hk2 (by omega), (HK1.out.trans (Keeps.of_below (S := fun _ => False) hb13) (fun _ _ h => h.elim)).trans hk2 (fun i hi e => absurd e (by omega))⟩
set_option maxRecDepth 100000 in
set_option maxHeartbeats 4000000 in
theorem rload_one {w : World} {m : Nat} {vr vd : Value} {rs ds : List Sp} {L S X a : Nat} (h : RBox w m vr vd (.slice none 0 0) L S X) (hr : U64.SV w vr rs) (hd : U64.SV w vd ds) (hs : Sane (rs ++ ds)) (hl : rs.length + ds.length ≤ 64) (ha : a ≤ 18446744073709551615) (hX : X ≤ 4611686018427387904) (hL : L ≤ 4611686018427387904) :
    Calls Tryz.prog 19 #[.pointer (some ⟨m, 0, none⟩), .int .u64 (a : Int), .int .i64 1] w fun e w' => ∃ x b, OffR (rs ++ ds) a 1 x b ∧ e = .returned (.tuple #[.int .u64 0, FaultV (if b then 30 else 0) x]) ∧ Keeps (fun j => j = m) w w' := by
  have HM : Hid (RBox w m vr vd (.slice none 0 0) L S X) := h
  have HA : Hid (∀ W, Below w.heap.size w W → Calls Tryz.prog 22 #[.pointer (some ⟨m, 0, none⟩), .int .u64 (a : Int), .int .i64 1] W (RLoad W m vr vd (rs ++ ds) L S X a (fun _ => 0))) := fun W hW => rpeek_one (h.below hW) (hr.below hW (Nat.le_refl _)) (hd.below hW (Nat.le_refl _)) hs hl ha hX
  generalize rs ++ ds = LL at *
  have hml := h.lt
  clear h hr hd hs hl
  go_enter Tryz.func19, Tryz.ntmps19
  go_wp2_with fail
  refine (HA.out _ ((Below.refl _ _).alloc (Nat.le_refl _) _)).mono ?_
  rintro e w1 ⟨x, b, ho, rfl, hm1, hk1⟩
  have HOff : Hid (OffR LL a 1 x b) := ho
  have HX1 : Hid (BoxG w1 w.heap.size 0 0) := (BoxG.new w 0 0).keeps hk1 (by omega)
  have HM1 : Hid (RBox w1 m vr vd (.slice none 0 0) L S (up b X)) := hm1
  have HK1 : Hid (Keeps (fun j => j = m) w w1) := (Keeps.alloc (S := fun j => j = m) w _).trans hk1 (fun _ _ e => e)
  obtain ⟨x0, x1, f0, f1⟩ := HX1.out.cells
  have hml1 := HM1.out.lt
  have hne : w.heap.size ≠ w1.heap.size := Nat.ne_of_lt HX1.out.lt
  have hlt1 := HX1.out.lt
  have c3 := fun X => U64.cell_alloc' X HM1.out.cells.2.2.2.1
  have g3 := fun X : Obj => (HM1.out.below ((Below.refl _ _).alloc (Nat.le_refl _) X)).thawed 3
  clear ho hm1 hk1 HA
  unfold FaultV
  cases b with
  | true =>
    simp only [if_true]
    go_wp2_with fail
    obtain ⟨W2, hW2⟩ : ∃ W2, w1.alloc (Obj.cells #[.int .i64 30, .int .u64 x] 75) = W2 := ⟨_, rfl⟩
    have HF2 : Hid (BoxG W2 w1.heap.size 30 x) := hW2 ▸ BoxG.new w1 30 x
    have HX2 : Hid (BoxG W2 w.heap.size 0 0) := hW2 ▸ HX1.out.below ((Below.refl _ _).alloc (Nat.le_refl _) _)
    have HB2 : Hid (Below w1.heap.size w1 W2) := hW2 ▸ (Below.refl _ _).alloc (Nat.le_refl _) _
    rw [hW2]
    obtain ⟨x0, x1, f0, f1⟩ := HX2.out.cells
    obtain ⟨y0, y1, _, _⟩ := HF2.out.cells
    clear hW2 c3 g3
    go_region_held3 (fun w' => w'.cell? ⟨w1.heap.size, 0, none⟩ = some (.int .i64 30) ∧ w'.cell? ⟨w1.heap.size, 1, none⟩ = some (.int .u64 x)) (go_keep) (fail)
    go_wp2_with fail
    obtain ⟨d0, d1, _⟩ := BoxG.cells (w := ((W2.setCell ⟨w.heap.size, 0, none⟩ (.int .i64 30)).setCell ⟨w.heap.size, 1, none⟩ (.int .u64 x)).drew) (HX2.out.set 30 x)
    refine bodyPost_ret (v := .tuple #[.int .u64 0, .agg #[.int .i64 30, .int .u64 x]]) (by simp [results, Tryz.results19, go_sem, d0, d1]) rfl ?_
    have hk2 : Keeps (fun j => j = w.heap.size) W2 (((W2.setCell ⟨w.heap.size, 0, none⟩ (.int .i64 30)).setCell ⟨w.heap.size, 1, none⟩ (.int .u64 x)).drew) := (Keeps.two W2 w.heap.size (.int .i64 30) (.int .u64 x)).drew
    exact ⟨x, true, HOff.out, rfl, (HK1.out.trans (Keeps.of_below (S := fun _ => False) HB2.out) (fun _ _ h => h.elim)).trans hk2 (fun i hi e => absurd e (by omega))⟩
  | false =>
    simp only [Bool.false_eq_true, if_false]
    go_wp2_with fail
    obtain ⟨W2, hW2⟩ : ∃ W2, (w1.setCell ⟨m, 3, none⟩ (.int .i64 ((L : Int) + 1))).alloc (Obj.cells #[.int .i64 0, .int .u64 x] 75) = W2 := ⟨_, rfl⟩
    have HF2 : Hid (BoxG W2 w1.heap.size 0 x) := by rw [← hW2]; exact heap_alloc_newN (by simp [World.setCell]) _
    have HX2 : Hid (BoxG W2 w.heap.size 0 0) := by rw [← hW2]; exact (HX1.out.keeps (Keeps.setCell _ _ _ _) (by omega)).below ((Below.refl _ _).alloc (Nat.le_refl _) _)
    have HK2 : Hid (Keeps (fun j => j = m) w1 W2) := by rw [← hW2]; exact (Keeps.setCell _ _ _ _).trans (Keeps.alloc (S := fun j => j = m) _ _) (fun _ _ e => e)
    rw [hW2]
    obtain ⟨x0, x1, f0, f1⟩ := HX2.out.cells
    obtain ⟨y0, y1, _, _⟩ := HF2.out.cells
    clear hW2 c3 g3
    go_region_held3 (fun w' => w'.cell? ⟨w1.heap.size, 0, none⟩ = some (.int .i64 0) ∧ w'.cell? ⟨w1.heap.size, 1, none⟩ = some (.int .u64 x)) (go_keep) (fail)
    go_wp2_with fail
    obtain ⟨d0, d1, _⟩ := BoxG.cells (w := ((W2.setCell ⟨w.heap.size, 0, none⟩ (.int .i64 0)).setCell ⟨w.heap.size, 1, none⟩ (.int .u64 x)).drew) (HX2.out.set 0 x)
    refine bodyPost_ret (v := .tuple #[.int .u64 0, .agg #[.int .i64 0, .int .u64 x]]) (by simp [results, Tryz.results19, go_sem, d0, d1]) rfl ?_
    have hk2 : Keeps (fun j => j = w.heap.size) W2 (((W2.setCell ⟨w.heap.size, 0, none⟩ (.int .i64 0)).setCell ⟨w.heap.size, 1, none⟩ (.int .u64 x)).drew) := (Keeps.two W2 w.heap.size (.int .i64 0) (.int .u64 x)).drew
    exact ⟨x, false, HOff.out, rfl, (HK1.out.trans HK2.out (fun _ _ e => e)).trans hk2 (fun i hi e => absurd e (by omega))⟩
end Go.Proofs.YtddgoncbdlhhhaaGreat
/- The document's own machine with pages: its Store of eight bytes. Own work. -/
namespace Go.Proofs.YtddgoncbdlhhhaaGreat
open Go.RowKit Go.Maps Go.Proofs.YtddgoncbdlhhhaaGreat.Sp Wk
set_option maxHeartbeats 1000000 in
theorem right_eight (w : World) : Calls Tryz.prog 49 #[.int .i64 8] w fun e w' => e = .returned (.bool true) ∧ w' = w := by
  go_enter Tryz.func49, Tryz.ntmps49
  go_wp2_with fail
  go_ret
  exact ⟨rfl, rfl⟩
theorem RS.box {w w' : World} {base v : Nat} {vr vd vp : Value} {ps : List (Int × Nat)} {L S X L' S' X' : Nat} (h : RS w base v vr vd vp ps L S X) (hk : Keeps (fun j => j = v) w w') (hb : RBox w' v vr vd vp L' S' X') : RS w' base v vr vd vp ps L' S' X' ∧ Kv base w w' := by
  obtain ⟨h0, h1, h2, h3⟩ := h
  refine ⟨⟨h0, hb, h2.keeps hk (fun k e e' => ?_), fun x hx => ⟨(h3 x hx).1, (h3 x hx).2.keeps hk (fun e => ?_)⟩⟩, Kv.of hk (fun k _ e => ?_)⟩
  · have e' : k = v := e'
    obtain ⟨_, _, _, _, _, hf⟩ := h2.form
    obtain ⟨_, cur, hc⟩ := hf k e
    rw [e', show w.heap[v]? = _ from h1] at hc
    cases hc
  · have e : x.2 = v := e
    obtain ⟨cur, hc, _⟩ := (h3 x hx).2
    rw [e, show w.heap[v]? = _ from h1] at hc
    cases hc
  · have e : k = v := e
    subst e
    exact ⟨h0, _, _, _, h1, .inl rfl⟩
theorem Own.u8 {w : World} {base g n cap : Nat} {xs : List Nat} (h : Own w base (.slice (some ⟨g, 0, none⟩) n cap) xs) (hz : ∀ z ∈ xs, z < 256) : U8 w g n := by
  rcases h.2 with ⟨hv, _⟩ | ⟨g', cap', cur, hv, hb, hg, hnc, hcm, hcs, ht⟩
  · cases hv
  · cases hv
    refine ⟨cur, hg, fun i hi => ?_⟩
    refine ⟨xs[i], hz _ (List.getElem_mem hi), ?_⟩
    have h1 := h.cell i hi
    rw [cell_of_row _ _ _ _ _ _ hg] at h1
    rw [h1, List.getD_eq_getElem?_getD, List.getElem?_eq_getElem hi]
    rfl
theorem BoxG.notVB {w : World} {b base : Nat} {x y : Int} (h : BoxG w b x y) : ∀ j, VB base w j → ¬ j = b := by
  rintro j ⟨_, c, t, fr, hc, ht⟩ rfl
  rw [show w.heap[j]? = _ from h] at hc
  cases hc
  rcases ht with ht | ht | ht <;> cases ht
theorem Kv.after {base : Nat} {w W W' : World} {Z : Nat → Prop} (h : Kv base w W) (k : Keeps Z W W') (hz : ∀ j, j < w.heap.size → ¬ Z j) : Kv base w W' := Keeps.trans h k (fun i hi e => absurd e (hz i hi))
/-- what the document's own Store keeps -/
def RSt (w : World) (base v : Nat) (vr vd : Value) (L S X : Nat) (e : Ending) (w' : World) : Prop := (∃ f, e = .returned f) ∧ ∃ vp' ps' S' X', RS w' base v vr vd vp' ps' L S' X' ∧ Pn ps' ∧ S' ≤ S + 1 ∧ X' ≤ X + 1 ∧ Kv base w w'
set_option maxRecDepth 100000 in
set_option maxHeartbeats 2000000 in
theorem rstore_any {w : World} {base v : Nat} {vr vd vp : Value} {ps : List (Int × Nat)} {rs ds : List Sp} {L S X a val : Nat} (h : RS w base v vr vd vp ps L S X) (hb : base ≤ w.heap.size) (hr : U64.SV w vr rs) (hd : U64.SV w vd ds) (hs : Sane (rs ++ ds)) (hll : rs.length + ds.length ≤ 64) (ha : a ≤ 18446744073709551615) (hl : Pn ps) (hX : X ≤ 4611686018427387904) (hS : S ≤ 4611686018427387904) :
    Calls Tryz.prog 24 #[.pointer (some ⟨v, 0, none⟩), .int .u64 (a : Int), .int .i64 8, .int .u64 (val : Int)] w (RSt w base v vr vd L S X) := by
  have HR := Lib.hid h
  have HAc : Hid (∀ W, Below w.heap.size w W → Calls Tryz.prog 50 #[.pointer (some ⟨v, 0, none⟩), .int .u64 (a : Int), .int .i64 ((8 : Nat) : Int)] W (RAsk W v vr vd vp (rs ++ ds) L S X a 8)) := fun W hW => raccess_any (h.2.1.below hW) (hr.below hW (Nat.le_refl _)) (hd.below hW (Nat.le_refl _)) hs hll ha (by omega) hX
  have HS := Lib.hid hs
  have HPn := Lib.hid hl
  have hvl := h.2.1.lt
  generalize rs ++ ds = LL at *
  clear h hr hd hs hll hl
  go_enter Tryz.func24, Tryz.ntmps24
  go_wp2_with fail
  refine (right_eight _).mono ?_
  rintro e w1 ⟨rfl, rfl⟩
  go_wp2_with fail
  refine (HAc.out _ ((Below.refl _ _).alloc (Nat.le_refl _) _)).mono ?_
  rintro e w1 ⟨x, b, hoff, rfl, hbx, hk1⟩
  have HXX : Hid (x = x) := rfl
  have hkw : Keeps (fun j => j = v) w w1 := (Keeps.alloc (S := fun j => j = v) w _).trans hk1 (fun _ _ e => e)
  have HX1 : Hid (BoxG w1 w.heap.size 0 0) := (BoxG.new w 0 0).keeps hk1 (show ¬ w.heap.size = v by omega)
  obtain ⟨r1, k1⟩ := HR.out.box hkw hbx
  have HR1 := Lib.hid r1
  have HK1 := Lib.hid k1
  have hlt1 := HX1.out.lt
  have HOf := Lib.hid hoff
  clear hkw hbx hk1 r1 k1 HAc HR hoff
  obtain ⟨W3, hW3⟩ : ∃ W3, w1.alloc (Obj.cells #[.int .i64 (if b = true then 30 else 0), .int .u64 x] 75) = W3 := ⟨_, rfl⟩
  have HB3 : Hid (Below w1.heap.size w1 W3) := hW3 ▸ (Below.refl _ _).alloc (Nat.le_refl _) _
  have HF3 : Hid (BoxG W3 w1.heap.size (if b = true then 30 else 0) x) := hW3 ▸ BoxG.new w1 _ _
  have HX3 : Hid (BoxG W3 w.heap.size 0 0) := HX1.out.below HB3.out
  have HR3 : Hid (RS W3 base v vr vd vp ps L S (up b X)) := HR1.out.below HB3.out
  have HK3 : Hid (Kv base w W3) := HK1.out.trans (Kv.below HB3.out)
  have hne : w.heap.size ≠ w1.heap.size := by omega
  have hbs : base ≤ W3.heap.size := by have := HB3.out.size; omega
  have hl3 : w1.heap.size < W3.heap.size := HF3.out.lt
  clear HX1 HR1 HK1 HB3
  unfold FaultV
  cases b with
  | true =>
    simp only [if_true] at hW3 HF3
    obtain ⟨x0, x1, f0, f1⟩ := HX3.out.cells
    obtain ⟨y0, y1, _, _⟩ := HF3.out.cells
    go_wp2_with fail
    clear hW3
    obtain ⟨d0, d1, _⟩ := (HX3.out.set 30 x).cells
    refine bodyPost_ret (v := .agg #[.int .i64 30, .int .u64 x]) (by simp [results, Tryz.results24, go_sem, d0, d1]) rfl ?_
    have hk2 := Keeps.two W3 w.heap.size (.int .i64 30) (.int .u64 x)
    exact ⟨⟨_, rfl⟩, vp, ps, S, X + 1, HR3.out.keeps hk2 HX3.out.notVB, HPn.out, by omega, by omega, HK3.out.after hk2 (fun j hj e => by omega)⟩
  | false =>
    obtain ⟨rfl, hon⟩ := HOf.out.2 rfl
    have ha8 : (a : Int) ≤ 4294967296 := on_le HS.out (hon 0 (by omega))
    clear hon
    simp only [if_false, Bool.false_eq_true] at hW3 HF3
    have HW3 := Lib.hid hW3
    have HW4 : Hid (BoxG (w1.alloc (Obj.cells #[.int .i64 0, .int .u64 0] 75)) w1.heap.size 0 0) := BoxG.new w1 0 0
    clear hW3
    go_wp2_with fail
    go_loopw [10, 11] (fun bv iv wr => ∃ i : Nat, i ≤ 8 ∧ iv = .int .i64 (i : Int) ∧ ∃ a1 n1 c1, bv = .slice a1 n1 c1 ∧ Hid (∃ xs : List Nat, xs.length = i ∧ (∀ z ∈ xs, z < 256) ∧ Own wr W3.heap.size (.slice a1 n1 c1) xs) ∧ Hid (Below W3.heap.size W3 wr)) (fun _ iv _ => 8 - (intOf iv).toNat)
    case atStart => exact ⟨0, by omega, rfl, none, 0, 0, rfl, ⟨[], rfl, by simp, own_nil _ _⟩, HW3.out ▸ Below.refl _ _⟩
    case round =>
      obtain ⟨i, hi, rfl, a1, n1, c1, rfl, HO, HB⟩ := hrel
      by_cases hlt : i < 8
      · obtain ⟨xs, hxl, hxs, hown⟩ := HO.out
        have HO1 := Lib.hid hown
        have HXs := Lib.hid hxs
        have HXl := Lib.hid hxl
        clear HO hown hxs hxl
        have qi : (i : Int) < 8 := by omega
        obtain ⟨r, hrr⟩ : ∃ r : Nat, (val : Int) / 2 ^ (8 * i) = (r : Int) := ⟨val / 2 ^ (8 * i), by rw [Int.natCast_ediv, Int.natCast_pow]; rfl⟩
        have hba : Below W3.heap.size W3 (wr.alloc (Obj.cells #[.int .u8 ((r : Int) % 256)] 5)) := HB.out.alloc HB.out.size _
        have F1 : Hid (Own (wr.alloc (Obj.cells #[.int .u8 ((r : Int) % 256)] 5)) W3.heap.size (.slice a1 n1 c1) xs) := HO1.out.below ((Below.refl _ _).alloc (Nat.le_refl _) _)
        have F2 : Hid (Sl (wr.alloc (Obj.cells #[.int .u8 ((r : Int) % 256)] 5)) (.slice (some ⟨wr.heap.size, 0, none⟩) 1 1) [r % 256]) := sl_one wr r
        have F6 : Hid (xs.length + [r % 256].length ≤ 1099511627776) := by show _ ≤ _; rw [HXl.out]; simp; omega
        have F7 : Hid (W3.heap.size ≤ (wr.alloc (Obj.cells #[.int .u8 ((r : Int) % 256)] 5)).heap.size) := hba.size
        have HBa := Lib.hid hba
        clear hba
        go_wp2_with (refine wpList_append_sl (.tmp 30) (.tmp 37) rfl rfl rfl F1.out rfl F2.out F6.out F7.out ?_)
        intro v' w5 ho hg5 ho3
        obtain ⟨a', n', c', rfl⟩ : ∃ a n c, v' = .slice a n c := by
          rcases ho.2 with ⟨rfl, _⟩ | ⟨g, cap, cur, rfl, _⟩
          · exact ⟨_, _, _, rfl⟩
          · exact ⟨_, _, _, rfl⟩
        have HO5 : Hid (∃ xs : List Nat, xs.length = i + 1 ∧ (∀ z ∈ xs, z < 256) ∧ Own w5 W3.heap.size (.slice a' n' c') xs) := ⟨xs ++ [r % 256], by rw [List.length_append, HXl.out]; rfl, fun z hz => by
          rcases List.mem_append.1 hz with hz | hz
          · exact HXs.out z hz
          · rw [List.mem_singleton.1 hz]; omega, ho⟩
        have HB5 : Hid (Below W3.heap.size W3 w5) := HBa.out.grown hg5 F7.out (fun k e => (F1.out.lt k e).1)
        clear ho hg5 ho3
        go_wp2_with fail
        exact ⟨⟨i + 1, by omega, by go_num, a', n', c', rfl, HO5, HB5⟩, by simp [intOf]; omega⟩
      · obtain rfl : i = 8 := by omega
        obtain ⟨xs, hxl, hxs, hown⟩ := HO.out
        obtain ⟨g, cap, hv, hg0, hg1, hg2, hg3⟩ := hown.form (by omega)
        rw [hxl] at hv hg2
        cases hv
        have HU := hown.u8 hxs
        have HRr := HR3.out.below HB.out
        have HLy : Hid (Calls Tryz.prog 54 #[.pointer (some ⟨v, 0, none⟩), .int .u64 (a : Int), .slice (some ⟨g, 0, none⟩) 8 c1, .int .i64 ((8 : Nat) : Int), .int .u8 0] wr fun e w' => e = .returned (.tuple #[]) ∧ ∃ vp' ps', RS w' base v vr vd vp' ps' L S X ∧ Pn ps' ∧ Kv base wr w') := rlay_any HRr (Nat.le_trans hbs HB.out.size) HU (by omega) hg2 (by omega) HPn.out
        have hwb : W3.heap.size ≤ wr.heap.size := HB.out.size
        clear HO hxl hxs hown HU HRr hg0 hg1 hg2 hg3
        go_wp2_with fail
        refine HLy.out.mono ?_
        rintro e w6 ⟨rfl, vp', ps', hr6, hl6, hk6⟩
        have HR6 := Lib.hid hr6
        have HL6 := Lib.hid hl6
        have HK6 := Lib.hid hk6
        have HX6 : Hid (BoxG w6 w.heap.size 0 0) := (HX3.out.below HB.out).keeps hk6 (fun e => (HX3.out.below HB.out).notVB _ e rfl)
        have HF6 : Hid (BoxG w6 w1.heap.size 0 0) := (HF3.out.below HB.out).keeps hk6 (fun e => (HF3.out.below HB.out).notVB _ e rfl)
        clear HLy hr6 hl6 hk6
        obtain ⟨_, _, _, _, c4, _⟩ := HR6.out.2.1.cells
        have f4 := HR6.out.2.1.thawed 4
        obtain ⟨x0, x1, f0, f1⟩ := HX6.out.cells
        obtain ⟨y0, y1, _, _⟩ := HF6.out.cells
        have hv1 : v ≠ w.heap.size := by omega
        have hv2 : v ≠ w1.heap.size := by omega
        go_wp2_with fail
        have hk7 := Keeps.setCell w6 v 4 (.int .i64 ((S : Int) + 1))
        have hx7 : BoxG (w6.setCell ⟨v, 4, none⟩ (.int .i64 ((S : Int) + 1))) w.heap.size 0 0 := HX6.out.keeps hk7 (fun e => hv1 (show w.heap.size = v from e).symm)
        have hb7 : RBox (w6.setCell ⟨v, 4, none⟩ (.int .i64 ((S : Int) + 1))) v vr vd vp' L (S + 1) X := by
          have h1 : w6.heap[v]? = _ := HR6.out.2.1
          simp [RBox, World.setCell, Array.getElem?_modify, h1]
        obtain ⟨r7, k7⟩ := HR6.out.box hk7 hb7
        generalize w6.setCell ⟨v, 4, none⟩ (.int .i64 ((S : Int) + 1)) = W7 at *
        obtain ⟨d0, d1, _⟩ := (hx7.set 0 0).cells
        refine bodyPost_ret (v := .agg #[.int .i64 0, .int .u64 0]) (by simp [results, Tryz.results24, go_sem, d0, d1]) rfl ?_
        have hk8 := Keeps.two W7 w.heap.size (.int .i64 0) (.int .u64 0)
        exact ⟨⟨_, rfl⟩, vp', ps', S + 1, X, r7.keeps hk8 hx7.notVB, HL6.out, by omega, by omega, (((HK3.out.trans (Kv.below HB.out)).trans HK6.out).trans k7).after hk8 (fun j hj e => by omega)⟩
end Go.Proofs.YtddgoncbdlhhhaaGreat
