import Derived.Test.YtfnikcjcgneboaaGreatPk28
import Derived.Laws.MakeOwn
import Derived.Deep.DeepCutAuto
/- The document's own machine with pages: its lay. Own work. -/
namespace Go.Proofs.YtfnikcjcgneboaaGreat
open Go.RowKit Go.Maps Go.Proofs.YtfnikcjcgneboaaGreat.Sp Wk
def zc : Array Value := madeCells #[.int .u8 0] 4096
theorem zc_get (i : Nat) (h : i < 4096) : zc[i]? = some (.int .u8 ((0 : Nat) : Int)) := by
  unfold zc madeCells
  rw [Array.getElem?_map, Array.getElem?_eq_getElem (by simpa using h)]
  simp [Nat.mod_one]
theorem U8.zero (w : World) (t : Array Value) (ty : TypeId) : U8 ((w.alloc (.cells zc 5)).alloc (.cells t ty)).drew w.heap.size 4096 := by
  refine ⟨zc, ?_, fun i hi => ⟨0, by omega, zc_get i hi⟩⟩
  show ((w.heap.push _).push _)[w.heap.size]? = _
  rw [Array.getElem?_push, if_neg (by simp), Array.getElem?_push_size]
theorem info_u8 : (Tryz.prog.info? 5).map (fun i => (i.zero, i.size, i.bytes)) = some (some (.int .u8 0), 1, 1) := by kernel_rfl
theorem make_page (W : World) : (Instr.makeSlice 50 (.int .i64 4096) (.int .i64 4096)).run Tryz.prog W = .ok (.slice (some ⟨W.heap.size, 0, none⟩) 4096 4096) (W.alloc (.cells zc 5)) := by
  obtain ⟨i, hi, hz0, hz1, hz2⟩ := info_parts info_u8
  have h := run_make (P := Tryz.prog) W 50 5 i _ Tryz.underlying50 hi hz0 .i64 .i64 4096 4096 (by omega) (by omega) (by rw [hz2]; decide) (by omega)
  rw [h, hz1]
  rfl
/-- the world ahead of the append -/
abbrev W2 (w : World) (pg : Int) : World := ((w.alloc (.cells zc 5)).alloc (.cells #[.int .u64 pg, .slice (some ⟨w.heap.size, 0, none⟩) 4096 4096] 52)).drew
theorem W2.keeps (w : World) (pg : Int) : Keeps (fun _ => False) w (W2 w pg) := Keeps.drew (Keeps.trans (Keeps.alloc (S := fun _ => False) w _) (Keeps.alloc (S := fun _ => False) _ _) (fun _ _ e => e))
theorem W2.cells (w : World) (pg : Int) : (W2 w pg).cell? ⟨w.heap.size + 1, 0, none⟩ = some (.int .u64 pg) ∧ (W2 w pg).cell? ⟨w.heap.size + 1, 1, none⟩ = some (.slice (some ⟨w.heap.size, 0, none⟩) 4096 4096) := by
  have h : (W2 w pg).heap[w.heap.size + 1]? = some (.cells #[.int .u64 pg, .slice (some ⟨w.heap.size, 0, none⟩) 4096 4096] 52 (0, 0)) := by
    show ((w.heap.push _).push _)[w.heap.size + 1]? = _
    rw [Array.getElem?_push, if_pos (by rw [Array.size_push])]
  refine ⟨?_, ?_⟩ <;> rw [cell_of_row _ _ _ _ _ _ h] <;> rfl
theorem RS.app {w w2 : World} {base v : Nat} {vr vd vp v2 : Value} {ps : List (Int × Nat)} {L S X : Nat} (h : RS w base v vr vd vp ps L S X) (hb : base ≤ w.heap.size) (pg : Int) (ho : OwnP w2 base v2 (ps ++ [(pg, w.heap.size)])) (hg : (W2 w pg).grownBy w2 vp.ownBlock) :
    RS (w2.setCell ⟨v, 2, none⟩ v2) base v vr vd v2 (ps ++ [(pg, w.heap.size)]) L S X ∧ Kv base w (w2.setCell ⟨v, 2, none⟩ v2) ∧ (∀ g n, U8 w g n → U8 (w2.setCell ⟨v, 2, none⟩ v2) g n) ∧ w2.cell? ⟨v, 2, none⟩ = some vp ∧ w2.frozen? ⟨v, 2, none⟩ = false ∧ base ≤ (w2.setCell ⟨v, 2, none⟩ v2).heap.size := by
  obtain ⟨h0, h1, h2, h3⟩ := h
  have hvb : ∀ k, vp.ownBlock = some k → base ≤ k ∧ ∃ cur, w.heap[k]? = some (.cells cur 52 (0, 0)) := by
    obtain ⟨_, _, _, _, _, hf⟩ := h2.form
    exact hf
  have kk : Keeps (fun j => vp.ownBlock = some j) w w2 := ((W2.keeps w pg).mono (S' := fun j => vp.ownBlock = some j) fun _ _ e => e.elim).trans (Keeps.of_grown hg) fun _ _ e => e
  have b1 : RBox w2 v vr vd vp L S X := h1.keeps kk (fun e => by
    obtain ⟨_, cur, hc⟩ := hvb v e
    rw [show w.heap[v]? = _ from h1] at hc
    cases hc)
  have hk := Keeps.setCell w2 v 2 v2
  have u1 : ∀ g n, U8 w2 g n → U8 (w2.setCell ⟨v, 2, none⟩ v2) g n := fun g n hu => hu.keeps hk (fun e => by
    have e : g = v := e
    obtain ⟨cur, hc, _⟩ := hu
    rw [e, show w2.heap[v]? = _ from b1] at hc
    cases hc)
  have u0 : ∀ g n, U8 w g n → U8 (w2.setCell ⟨v, 2, none⟩ v2) g n := fun g n hu => u1 g n (hu.keeps kk (fun e => by
    obtain ⟨_, cur, hc⟩ := hvb g e
    obtain ⟨cur', hc', _⟩ := hu
    rw [hc] at hc'
    cases hc'))
  refine ⟨⟨h0, ?_, ho.keeps hk (fun k e e' => ?_), fun x hx => ?_⟩, ?_, u0, ?_, b1.thawed 2, Nat.le_trans hb (Nat.le_trans kk.size hk.size)⟩
  · have b1' : w2.heap[v]? = _ := b1
    simp [RBox, World.setCell, Array.getElem?_modify, b1']
  · have e' : k = v := e'
    obtain ⟨_, _, _, _, _, hf⟩ := ho.form
    obtain ⟨_, cur, hc⟩ := hf k e
    rw [e', show w2.heap[v]? = _ from b1] at hc
    cases hc
  · rcases List.mem_append.1 hx with hx | hx
    · exact ⟨(h3 x hx).1, u0 _ _ (h3 x hx).2⟩
    · obtain rfl := List.mem_singleton.1 hx
      refine ⟨hb, u1 _ _ ((U8.zero w _ _).keeps (Keeps.of_grown hg) (fun e => ?_))⟩
      obtain ⟨_, cur, hc⟩ := hvb _ e
      have := (Array.getElem?_eq_some_iff.1 hc).1
      omega
  · refine Kv.of ((kk.mono (S' := fun j => vp.ownBlock = some j ∨ j = v) fun _ _ e => .inl e).trans hk fun _ _ e => .inr e) (fun k hkl e => ?_)
    rcases e with e | e
    · obtain ⟨hbk, cur, hc⟩ := hvb k e
      exact ⟨hbk, cur, _, _, hc, .inr (.inl rfl)⟩
    · subst e
      exact ⟨h0, _, _, _, h1, .inl rfl⟩
  · exact b1.cells.2.2.1
/-- what lay keeps -/
def LayI (w0 w : World) (base v : Nat) (vr vd : Value) (L S X gb n : Nat) (vp : Value) (ps : List (Int × Nat)) : Prop := RS w base v vr vd vp ps L S X ∧ U8 w gb n ∧ Kv base w0 w ∧ Pn ps ∧ base ≤ w.heap.size
theorem LayI.write {w0 w : World} {base v : Nat} {vr vd vp : Value} {L S X gb n : Nat} {ps : List (Int × Nat)} (h : LayI w0 w base v vr vd L S X gb n vp ps) {x : Nat} (hx : U8 w x 4096) (hb : base ≤ x) (t z : Nat) (hz : z < 256) : LayI w0 (w.setCell ⟨x, t, none⟩ (.int .u8 (z : Int))) base v vr vd L S X gb n vp ps := by
  refine ⟨h.1.write hx t z hz, h.2.1.set x t z hz, h.2.2.1.trans (Kv.of (Keeps.setCell w x t _) (fun k _ e => ?_)), h.2.2.2.1, Nat.le_trans h.2.2.2.2 (Keeps.setCell w x t (.int .u8 (z : Int))).size⟩
  have e : k = x := e
  subst e
  obtain ⟨cur, hc, _⟩ := hx
  exact ⟨hb, cur, _, _, hc, .inr (.inr rfl)⟩
set_option maxRecDepth 100000 in
set_option maxHeartbeats 2000000 in
theorem rlay_any {w : World} {base v : Nat} {vr vd vp : Value} {ps : List (Int × Nat)} {L S X a n gb cb : Nat} (h : RS w base v vr vd vp ps L S X) (hb : base ≤ w.heap.size) (hB : U8 w gb n) (hn : n ≤ 8) (hcb : n ≤ cb) (ha : a + n ≤ 4294967400) (hl : Pn ps) :
    Calls Tryz.prog 38 #[.pointer (some ⟨v, 0, none⟩), .int .u64 (a : Int), .slice (some ⟨gb, 0, none⟩) n cb, .int .i64 (n : Int), .int .u8 0] w fun e w' => e = .returned (.tuple #[]) ∧ ∃ vp' ps', RS w' base v vr vd vp' ps' L S X ∧ Pn ps' ∧ Kv base w w' := by
  have HI0 : Hid (∃ vp' ps', LayI w w base v vr vd L S X gb n vp' ps') := ⟨vp, ps, h, hB, Kv.refl _ _, hl, hb⟩
  clear h hB hb hl
  have hmk : ∀ W : World, (Instr.makeSlice 50 (.int .i64 4096) (.int .i64 4096)).run Tryz.prog W = .ok (.slice (some ⟨W.heap.size, 0, none⟩) 4096 4096) (W.alloc (.cells zc 5)) := make_page
  go_enter Tryz.func38, Tryz.ntmps38
  go_wp2_with fail
  go_loopw [10] (fun iv wr => ∃ i : Nat, i ≤ n ∧ iv = .int .i64 (i : Int) ∧ Hid (∃ vp' ps', LayI w wr base v vr vd L S X gb n vp' ps')) (fun iv _ => n - (intOf iv).toNat)
  case atStart => exact ⟨0, Nat.zero_le _, rfl, HI0⟩
  case round =>
    obtain ⟨i, hi, rfl, HI⟩ := hrel
    by_cases hlt : i < n
    · obtain ⟨vp1, ps1, HI1⟩ := HI.out
      have HL := Lib.hid HI1
      clear HI1 HI HI0
      have qi : (i : Int) < (n : Int) := by omega
      have hai : (a : Int) + (i : Int) ≤ 18446744073709551615 := by omega
      obtain ⟨fr, hfr, hfr2⟩ : ∃ fr : Nat, ((a : Int) + (i : Int)) % 4096 = (fr : Int) ∧ fr < 4096 := ⟨(a + i) % 4096, by omega, by omega⟩
      obtain ⟨pg, hpg⟩ : ∃ pg : Nat, ((a : Int) + (i : Int)) / 4096 = (pg : Int) := ⟨(a + i) / 4096, by omega⟩
      have hw1 : IntKind.u64.wrap ((a : Int) + (i : Int)) = (a : Int) + (i : Int) := by rw [IntKind.wrap_u64]; omega
      have HF : Hid (Calls Tryz.prog 65 #[.pointer (some ⟨v, 0, none⟩), .int .u64 (pg : Int)] wr fun e w' => ∃ j : Int, e = .returned (.int .i64 j) ∧ Hid ((j = -1 ∧ ∀ x ∈ ps1, x.1 ≠ (pg : Int)) ∨ ∃ i : Nat, j = (i : Int) ∧ i < ps1.length) ∧ wr = w') := rfind_any HL.out.1 (by have := HL.out.2.2.2.1.len; omega)
      obtain ⟨k, hk1, hk2, hk3, hkk⟩ : ∃ k : Nat, 1 ≤ k ∧ k ≤ n - i ∧ k + fr ≤ 4096 ∧ Hid ((decide ((k : Int) < 4096 - (fr : Int)) = true ∧ (n : Int) - (i : Int) = (k : Int)) ∨ (decide ((n : Int) - (i : Int) < (k : Int)) = false ∧ (4096 : Int) - (fr : Int) = (k : Int))) := by
        by_cases hc : n - i < 4096 - fr
        · exact ⟨n - i, by omega, by omega, by omega, .inl ⟨by simp; omega, by omega⟩⟩
        · exact ⟨4096 - fr, by omega, by omega, by omega, .inr ⟨by simp; omega, by omega⟩⟩
      go_upto_if 31 with fail
      go_cut [12] (fun s wx => s = .int .i64 (k : Int) ∧ wx = wr)
      case first =>
        rcases hkk.out with ⟨hci, hk⟩ | ⟨hci, hk⟩
        · have hcp : (n : Int) - (i : Int) < 4096 - (fr : Int) := by rw [hk]; exact of_decide_eq_true hci
          clear hci
          rw [hk] at hcp
          go_wp2_with fail
          go_meet
          exact ⟨rfl, rfl⟩
        · have hcp : ¬ (n : Int) - (i : Int) < (k : Int) := of_decide_eq_false hci
          clear hci
          go_wp2_with fail
          go_meet
          exact ⟨rfl, rfl⟩
      case rest =>
        obtain ⟨rfl, rfl⟩ := hcut
        clear hkk
        go_wp2_with fail
        refine HF.out.mono ?_
        rintro e w1 ⟨j, rfl, hj, rfl⟩
        clear HF
        go_upto_region 7 with fail
        go_cut [51] (fun s wx => s = .bool (decide (j < 0)) ∧ wx = wc)
        case first =>
          rcases hj.out with ⟨rfl, hjx⟩ | ⟨j0, rfl, hj0⟩
          · go_wp2_with fail
            go_meet
            exact ⟨rfl, rfl⟩
          · have hjn : decide ((j0 : Int) < 0) = false := by simp
            go_wp2_with fail
            go_meet
            exact ⟨by go_num, rfl⟩
        case rest =>
          obtain ⟨rfl, hwc⟩ := hcut
          subst hwc
          go_upto_if 51 with fail
          go_cut [13] (fun s wx => ∃ (jj : Nat) (vp2 : Value) (ps2 : List (Int × Nat)), s = .int .i64 (jj : Int) ∧ Hid (jj < ps2.length) ∧ Hid (LayI w wx base v vr vd L S X gb n vp2 ps2))
          case first =>
            rcases hj.out with ⟨rfl, hjx⟩ | ⟨j0, rfl, hj0⟩
            · clear hj
              have HJX := Lib.hid hjx
              clear hjx
              obtain ⟨c0, c1, c2, _⟩ := HL.out.1.2.1.cells
              have hvl := HL.out.1.2.1.lt
              have hv1 : v ≠ wc.heap.size := by omega
              have hv2 : v ≠ wc.heap.size + 1 := by omega
              obtain ⟨a1, cc, hvp, hc1, hc2, _⟩ := HL.out.1.2.2.1.form
              unfold maxLen at hc2
              obtain ⟨n1, hn1⟩ : ∃ n1, n1 = ps1.length := ⟨_, rfl⟩
              have HN1 : Hid (n1 = ps1.length) := hn1
              rw [← hn1] at hvp hc1
              have hn1l : n1 ≤ 2097153 := by rw [HN1.out]; exact HL.out.2.2.2.1.len
              subst hvp
              clear hn1
              have HO : Hid (OwnP (W2 wc (pg : Int)) base (.slice a1 n1 cc) ps1) := HL.out.1.2.2.1.keeps (W2.keeps wc (pg : Int)) (fun _ _ e => e)
              have HC : Hid ((W2 wc (pg : Int)).cell? ⟨wc.heap.size + 1, 0, none⟩ = some (.int .u64 (pg : Int)) ∧ (W2 wc (pg : Int)).cell? ⟨wc.heap.size + 1, 1, none⟩ = some (.slice (some ⟨wc.heap.size, 0, none⟩) 4096 4096)) := W2.cells wc (pg : Int)
              have HA : Hid (∀ v2 w2, OwnP w2 base v2 (ps1 ++ [((pg : Int), wc.heap.size)]) → (W2 wc (pg : Int)).grownBy w2 (Value.slice a1 n1 cc).ownBlock → LayI w (w2.setCell ⟨v, 2, none⟩ v2) base v vr vd L S X gb n v2 (ps1 ++ [((pg : Int), wc.heap.size)]) ∧ w2.cell? ⟨v, 2, none⟩ = some (.slice a1 n1 cc) ∧ w2.frozen? ⟨v, 2, none⟩ = false) := fun v2 w2 ho hg => by
                obtain ⟨r1, r2, r3, r4, r5, r6⟩ := HL.out.1.app HL.out.2.2.2.2 (pg : Int) ho hg
                exact ⟨⟨r1, r3 _ _ HL.out.2.1, HL.out.2.2.1.trans r2, HL.out.2.2.2.1.add _ HJX.out ⟨by omega, by omega⟩, r6⟩, r4, r5⟩
              have HBs : Hid (base ≤ (W2 wc (pg : Int)).heap.size) := Nat.le_trans HL.out.2.2.2.2 (W2.keeps wc (pg : Int)).size
              have hw0 : IntKind.u64.wrap (i : Int) = (i : Int) := by rw [IntKind.wrap_u64]; omega
              have hw2 : IntKind.u64.wrap (((a : Int) + (i : Int)).tdiv 4096) = (pg : Int) := by rw [Int.tdiv_eq_ediv_of_nonneg (by omega), hpg, IntKind.wrap_u64]; omega
              have HLn : Hid (ps1.length ≤ 1099511627776) := by show _ ≤ _; rw [← HN1.out]; omega
              go_wp2_with fail
              go_region_law (refine step_appP (base := base) (v := .slice a1 n1 cc) (ps := ps1) (x := ((pg : Int), wc.heap.size)) (by kernel_rfl) (.tmp 61) (.tmp 69) (by rfl) (by rfl) (by exact HO.out) (by rfl) (by exact HC.out.1) (by exact HC.out.2) HLn.out (by exact HBs.out) ?_; intro va vn vc w2 ho hg; obtain ⟨hl2, hc2, hf2⟩ := HA.out _ w2 ho hg; have HL2 := Lib.hid hl2; clear hl2 ho hg)
              all_goals
                go_wp2_with fail
                go_meet
                exact ⟨n1, _, _, rfl, by show _ < _; rw [HN1.out, List.length_append]; exact Nat.lt_succ_self _, HL2⟩
            · clear hj
              have HJ : Hid (j0 < ps1.length) := hj0
              clear hj0
              have HL2 : Hid (LayI w wc base v vr vd L S X gb n vp1 ps1) := ⟨HL.out.1, HL.out.2.1, HL.out.2.2.1, HL.out.2.2.2.1, HL.out.2.2.2.2⟩
              go_wp2_with fail
              go_meet
              exact ⟨j0, _, _, rfl, HJ, HL2⟩
          case rest =>
            obtain ⟨jj, vp2, ps2, rfl, HJ, HL2⟩ := hcut
            clear hj HL
            have jj0 : (0 : Int) ≤ (jj : Int) := Int.natCast_nonneg _
            go_wp2_with fail
            go_loopw [14] (fun qv wq => ∃ q : Nat, q ≤ k ∧ qv = .int .i64 (q : Int) ∧ Hid (LayI w wq base v vr vd L S X gb n vp2 ps2)) (fun qv _ => k - (intOf qv).toNat)
            case atStart => exact ⟨0, Nat.zero_le _, rfl, HL2⟩
            case round =>
              obtain ⟨q, hq, rfl, HQ⟩ := hrel
              by_cases hqk : q < k
              · have qki : (q : Int) < (k : Int) := by omega
                obtain ⟨c0, c1, c2, _⟩ := HQ.out.1.2.1.cells
                obtain ⟨a1, cc, hvp, hc1, hc2, _⟩ := HQ.out.1.2.2.1.form
                unfold maxLen at hc2
                obtain ⟨n1, hn1⟩ : ∃ n1, n1 = ps2.length := ⟨_, rfl⟩
                have HN1 : Hid (n1 = ps2.length) := hn1
                rw [← hn1] at hvp hc1
                have hjn : jj < n1 := by rw [HN1.out]; exact HJ.out
                subst hvp
                clear hn1
                obtain ⟨g, rfl, d0, d1⟩ := HQ.out.1.2.2.1.cell jj HJ.out
                obtain ⟨hxb, hxu⟩ := HQ.out.1.2.2.2 _ (List.getElem_mem HJ.out)
                have HXU := Lib.hid hxu
                have HXB := Lib.hid hxb
                generalize (ps2[jj]'HJ.out).2 = x at *
                obtain ⟨s, hs, hs2⟩ : ∃ s : Nat, (i : Int) + (q : Int) = (s : Int) ∧ s < n := ⟨i + q, by omega, by omega⟩
                obtain ⟨t, ht, ht2⟩ : ∃ t : Nat, (fr : Int) + (q : Int) = (t : Int) ∧ t < 4096 := ⟨fr + q, by omega, by omega⟩
                obtain ⟨z, hz, hcz⟩ := HQ.out.2.1.cell s hs2
                obtain ⟨y, hy, hcy⟩ := HXU.out.cell t ht2
                have hfz := HXU.out.thawed t
                clear hxb hxu
                go_wp2_with fail
                refine ⟨⟨q + 1, by omega, by go_num, ?_⟩, by simp [intOf]; omega⟩
                exact HQ.out.write HXU.out HXB.out t z hz
              · go_wp2_with fail
                refine ⟨⟨i + k, by omega, by go_num, ?_⟩, by simp [intOf]; omega⟩
                exact ⟨_, _, HQ.out.1, HQ.out.2.1, HQ.out.2.2.1, HQ.out.2.2.2.1, HQ.out.2.2.2.2⟩
    · obtain rfl : i = n := by omega
      go_wp2_with fail
      go_end0
      obtain ⟨vp1, ps1, h1⟩ := HI.out
      exact ⟨rfl, vp1, ps1, h1.1, h1.2.2.2.1, h1.2.2.1⟩
end Go.Proofs.YtfnikcjcgneboaaGreat
