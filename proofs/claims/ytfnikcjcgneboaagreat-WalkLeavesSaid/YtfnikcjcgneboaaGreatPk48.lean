import Derived.Test.YtfnikcjcgneboaaGreatPk44
import Derived.Test.YtfnikcjcgneboaaGreatPk25
import Derived.Test.YtfnikcjcgneboaaGreatPk46
import Derived.Test.YtfnikcjcgneboaaGreatPk47
import Derived.Deep.DeepCutAuto
import Derived.Deep.CutBlock
import Derived.Deep.CutRange
import Derived.BigRegion
import Derived.BigQuiet
import Derived.Deep.RegionHeld3
/- WalkLeaves: the law. Own work. -/
namespace Go.Proofs.YtfnikcjcgneboaaGreat
open Go.RowKit Go.Maps Go.Shelf Go.Proofs.YtfnikcjcgneboaaGreat.Sp Wk Lv
attribute [local go_sem] Oper.semAt_some
attribute [local go_sem ↓ high] appLf6_eq appEr1_eq
set_option maxRecDepth 100000 in
set_option maxHeartbeats 2000000 in
theorem grounds_none {w : World} {vr vd vw : Value} {rs ds : List Sp} (hr : U64.SV w vr rs) (hd : U64.SV w vd ds) (fr : Fits 18446744073709551615 rs) (fd : Fits 18446744073709551615 ds) (h0 : refW rs ds ≠ 0) :
    Calls Tryz.prog 7 #[.agg #[vr, vd], vw] w fun e w' => e = .returned (.tuple #[.pointer none, .pointer none]) ∧ Below w.heap.size w w' := by
  have HB0 : Hid (Below w.heap.size w (w.alloc (Obj.cells #[vr, vd] 24))) := (Below.refl _ _).alloc (Nat.le_refl _) _
  obtain ⟨x0, x1⟩ : (w.alloc (Obj.cells #[vr, vd] 24)).cell? ⟨w.heap.size, 0, none⟩ = some vr ∧ (w.alloc (Obj.cells #[vr, vd] 24)).cell? ⟨w.heap.size, 1, none⟩ = some vd := U64.new2 rfl vr vd _
  have HRf := Lib.hid (refuses_any (hr.below HB0.out (Nat.le_refl _)) (hd.below HB0.out (Nat.le_refl _)) fr fd)
  generalize refW rs ds = k at h0 HRf
  have hk : (k != 0) = true := by simpa using h0
  clear hr hd fr fd h0
  go_enter Tryz.func7, Tryz.ntmps7
  go_wp2_with fail
  refine HRf.out.mono ?_
  rintro e w1 ⟨rfl, hb1⟩
  have HB1 : Hid (Below w.heap.size w w1) := HB0.out.trans (hb1.mono HB0.out.size)
  clear HRf hb1 x0 x1
  go_wp2_with fail
  go_ret2
  exact ⟨rfl, HB1.out⟩
/-- where the law's loop over Leaves stands -/
structure LeI (m B : Nat) (V : Value × Value × Value) (T : Nat → Option Nat) (M : Nat → Nat) (rs ds : List Sp) (n0 l0 : Nat) (r : Loop) (bl bw : Nat) (W7 : World) (k : Nat) (L : List Lf) (W : World) : Prop where
  mac : Mx W m B V T M rs ds (n0 + k)
  record : RecAt W l0 r .ready none
  rows : Rows2 bl bw W7.heap.size L W
  low : Keeps (fun k => (k = m ∨ k = bl ∨ k = bw ∨ k = l0) ∨ W7.heap.size ≤ k) W7 W
theorem mx_notRw {w : World} {m B : Nat} {V : Value × Value × Value} {T : Nat → Option Nat} {M : Nat → Nat} {rs ds : List Sp} {n : Nat} (h : Mx w m B V T M rs ds n) : ¬ Rw w m := by
  obtain ⟨L, S, X, _, _, _, G, hg, _⟩ := h
  exact not_rw hg (by
    rintro ⟨c, t, fr, k, n, h, ht, _⟩
    cases h
    rcases ht with ht | ht <;> cases ht)
/-- which of the leaves an address lies in -/
def InR (L : List Lf) (a j : Nat) (inn : Int) : Prop :=
  (inn = -1 ∧ ∀ k (h : k < L.length), k < j → ¬ ((L[k]'h).1 ≤ a ∧ a < (L[k]'h).1 + 4096 * (L[k]'h).2.2.1)) ∨ ∃ k : Nat, inn = (k : Int) ∧ ∃ h : k < L.length, (L[k]'h).1 ≤ a ∧ a < (L[k]'h).1 + 4096 * (L[k]'h).2.2.1
theorem InR.next {L : List Lf} {a j : Nat} {inn : Int} (h : InR L a j inn) (hn : ∀ h : j < L.length, ¬ ((L[j]'h).1 ≤ a ∧ a < (L[j]'h).1 + 4096 * (L[j]'h).2.2.1)) : InR L a (j + 1) inn := by
  rcases h with ⟨h1, h2⟩ | h
  · refine .inl ⟨h1, fun k hk hj => ?_⟩
    by_cases e : k = j
    · subst e
      exact hn hk
    · exact h2 k hk (by omega)
  · exact .inr h
theorem vb_of {w : World} {base v : Nat} {vr vd vp : Value} {ps : List (Int × Nat)} {M : Nat → Nat} {L S X : Nat} (h : RM w base v vr vd vp ps M L S X) : VB base w v := ⟨h.1, _, _, _, h.2.1, .inl rfl⟩
set_option maxRecDepth 100000 in
set_option maxHeartbeats 8000000 in
theorem leaves_walk {w : World} {vr vd vw va : Value} {rs ds ws : List Sp} {qs : List Int} {root : Nat} (hr : U64.SV w vr rs) (hd : U64.SV w vd ds) (fr : Fits 18446744073709551615 rs) (fd : Fits 18446744073709551615 ds) (hw : U64.SV w vw ws) (fw : Fits 18446744073709551615 ws) (hlw : ws.length ≤ 1152921504606846976) (hroot : root ≤ 18446744073709551615) (hva : UL w va qs) (hla : qs.length ≤ 72057594037927936) :
    Calls Tryz.prog 5 #[.agg #[vr, vd], vw, .int .u64 (root : Int), va] w fun e w' => e = .returned (.bool true) ∧ Below w.heap.size w w' := by
  have HB0 : Hid (Below w.heap.size w (w.alloc (Obj.cells #[vr, vd] 24))) := (Below.refl _ _).alloc (Nat.le_refl _) _
  have HX0 : Hid ((w.alloc (Obj.cells #[vr, vd] 24)).cell? ⟨w.heap.size, 0, none⟩ = some vr ∧ (w.alloc (Obj.cells #[vr, vd] 24)).cell? ⟨w.heap.size, 1, none⟩ = some vd) := U64.new2 rfl vr vd _
  have HG0 : Hid (refW rs ds ≠ 0 → ∀ W, Below w.heap.size w W → Calls Tryz.prog 7 #[.agg #[vr, vd], vw] W fun e w' => e = .returned (.tuple #[.pointer none, .pointer none]) ∧ Below W.heap.size W w') := fun h0 W hW => grounds_none (hr.below hW (Nat.le_refl _)) (hd.below hW (Nat.le_refl _)) fr fd h0
  have HGr : Hid (refW rs ds = 0 → ∀ W, Below w.heap.size w W → Calls Tryz.prog 7 #[.agg #[vr, vd], vw] W fun e w' => ∃ m v base B V, e = .returned (.tuple #[.pointer (some ⟨m, 0, none⟩), .pointer (some ⟨v, 0, none⟩)]) ∧ Hid (GM W w' base m B V v vr vd rs ds (layF (rs ++ ds) ws) (layF (rs ++ ds) ws) ws.length ws.length)) := fun h0 W hW => grounds_at (hr.below hW (Nat.le_refl _)) (hd.below hW (Nat.le_refl _)) fr fd h0 (hw.below hW (Nat.le_refl _)) fw hlw
  have HRf : Hid (∀ W, Below w.heap.size w W → Calls Tryz.prog 8 #[.agg #[vr, vd]] W fun e w' => e = .returned (.int .i64 (refW rs ds)) ∧ Below W.heap.size W w') := fun W hW => refuses_any (hr.below hW (Nat.le_refl _)) (hd.below hW (Nat.le_refl _)) fr fd
  have HSn : Hid (refW rs ds = 0 → rs.length + ds.length ≤ 64) := fun h => by
    have := (refW_sane fr fd h).2
    omega
  have HR := Lib.hid hr
  have HD := Lib.hid hd
  have HU := Lib.hid hva
  have HLy := Lib.hid (layF_le (rs ++ ds) ws ws.length (Nat.le_refl _))
  obtain ⟨aa, ca, hvs, _⟩ : ∃ aa ca, va = .slice aa qs.length ca ∧ True := by
    obtain ⟨_, aa, ca, h, _⟩ := hva
    exact ⟨aa, ca, h, trivial⟩
  have HVs := Lib.hid hvs
  clear hr hd fr fd hw fw hva hvs
  refine (callsIn_wide (n := 20)).1 ?_
  refine callsIn_of_wp_marks Tryz.func5 rfl trivial ?_ rfl
  simp only [Tryz.ntmps5, List.size_toArray, List.length_cons, List.length_nil, Nat.reduceAdd, Nat.reduceSub, Array.replicate_succ, Array.replicate_zero, List.push_toArray, List.append_toArray, List.nil_append, List.cons_append]
  refine wpIn_wide.2 ?_
  go_wp2_with fail
  refine (awake_any _).mono ?_
  rintro e w1 ⟨rfl, hb1⟩
  have HB1 : Hid (Below w.heap.size w w1) := HB0.out.trans (hb1.mono HB0.out.size)
  have y0 : w1.cell? ⟨w.heap.size, 0, none⟩ = some vr := (hb1.cell (p := ⟨w.heap.size, 0, none⟩) (by simp)).trans HX0.out.1
  have y1 : w1.cell? ⟨w.heap.size, 1, none⟩ = some vd := (hb1.cell (p := ⟨w.heap.size, 1, none⟩) (by simp)).trans HX0.out.2
  have hl1 : w.heap.size < w1.heap.size := by have := hb1.size; simp at this; omega
  clear HX0 hb1 HB0
  by_cases h0 : refW rs ds = 0
  · have HLn := Lib.hid (HSn.out h0)
    have HG2 := Lib.hid (HGr.out h0 w1 HB1.out)
    clear HSn HGr HG0 HRf h0
    go_wp2_with fail
    refine HG2.out.mono ?_
    rintro e w3 ⟨m, v, base, B, V, rfl, HG3⟩
    clear HG2 y0 y1
    obtain ⟨T, X, hX, gMac, gMine, gNo, gb1, gb2, gB, vp, ps, X', hX', gRM⟩ := HG3.out
    have HB3 : Hid (Below w.heap.size w w3) := HB1.out.trans (gB.mono HB1.out.size)
    obtain ⟨HH, hHH⟩ : ∃ HH, HH = layF (rs ++ ds) ws := ⟨_, rfl⟩
    rw [← hHH] at gMac gRM
    have HL1 := HLy.out
    rw [List.take_length, ← hHH] at HL1
    obtain ⟨M, Ld, St_⟩ := HH
    dsimp only at gMac gRM HL1
    have HM3 : Hid (Mx w3 m B V T M rs ds 2305843009213693952) := gMac.mx.mono (by omega)
    have HMi : Hid (∀ j, Mine m B V T j → w1.heap.size ≤ j) := Lib.hid gMine
    have HMl : Hid (∀ j, Mine m B V T j → j < w3.heap.size) := fun j hj => HM3.out.mine_lt hj
    have HRM := Lib.hid gRM
    have hmv : ∀ j, Mine m B V T j → ¬ j = v := fun j hj e => mine_notVB gMac.mx gNo j hj (e ▸ vb_of gRM)
    have HMv := Lib.hid hmv
    have hvb : w1.heap.size ≤ v := Nat.le_trans gb1 gRM.1
    have hX2 : X' ≤ 4611686018427387904 := by omega
    have hv3 : v < w3.heap.size := by
      have : w3.heap[v]? = _ := gRM.2.1
      exact (Array.getElem?_eq_some_iff.1 this).1
    have hm3 := HM3.out.lt
    have hmw : w1.heap.size ≤ m := gMine m (.inl rfl)
    clear gMac gMine gNo gb1 gb2 gB gRM HG3 hHH HLy HL1 hmv
    go_upto_region 8 with fail
    obtain ⟨W4, hW4⟩ : ∃ W4, (w3.alloc (Obj.cells #[.slice none 0 0] 55)).alloc (Obj.cells #[.slice none 0 0] 56) = W4 := ⟨_, rfl⟩
    have HB4 : Hid (Below w3.heap.size w3 W4) := hW4 ▸ ((Below.refl _ w3).alloc (Nat.le_refl _) _).alloc (by simp) _
    have hs4 : W4.heap.size = w3.heap.size + 2 := by rw [← hW4]; simp
    have HSl4 : Hid (SlAt W4 w3.heap.size 55 (.slice none 0 0)) := by
      show W4.heap[w3.heap.size]? = _
      rw [← hW4, Below.heap_alloc _ _ _ (by simp)]
      exact heap_alloc_new w3 _
    have HSw4 : Hid (SlAt W4 (w3.heap.size + 1) 56 (.slice none 0 0)) := by
      have := heap_alloc_new (w3.alloc (Obj.cells #[.slice none 0 0] 55)) (Obj.cells #[.slice none 0 0] 56)
      rw [World.size_alloc, hW4] at this
      exact this
    rw [hW4]
    clear hW4
    have HB4w : Hid (Below w.heap.size w W4) := HB3.out.trans (HB4.out.mono HB3.out.size)
    have HRl := Lib.hid (rleaves_at (w0 := w) (rs := rs) (ds := ds) (root := root) (most := 3000) (HRM.out.below HB4.out) HB4w.out (by omega) (by omega) HR.out HD.out HM3.out.sane HLn.out hX2 (by omega) (by omega) hroot)
    have HM4 : Hid (Mx W4 m B V T M rs ds 2305843009213693952) := HM3.out.below HB4.out
    clear HRM HM3 HB3 hX2 hX' hX
    go_wp2_with fail
    refine HRl.out.mono ?_
    rintro e w5 ⟨vt, b, rfl, hb1, hb2, _, hk5⟩
    have HK5 := Lib.hid hk5
    have HB5 : Hid (Below w.heap.size w w5) := HB4w.out.trans (hk5.below HB4w.out.size (fun i _ e => by omega))
    have HM5 : Hid (Mx w5 m B V T M rs ds 2305843009213693952) := HM4.out.keeps hk5 (fun j hj e => HMv.out j hj e)
    have HSl5 : Hid (SlAt w5 w3.heap.size 55 (.slice none 0 0)) := HSl4.out.keeps hk5 (by omega)
    have HSw5 : Hid (SlAt w5 (w3.heap.size + 1) 56 (.slice none 0 0)) := HSw4.out.keeps hk5 (by omega)
    have hs5 : w3.heap.size + 2 ≤ w5.heap.size := by rw [← hs4]; exact hk5.size
    clear HRl hk5 HM4 HSl4 HSw4 HB4 HB4w hs4 HK5
    cases b
    · clear hb1 hb2 HM5 HSl5 HSw5 HMi HMv HMl
      go_wp2_with fail
      exact ⟨.bool true, by simp [results, Tryz.results5, go_sem], rfl, HB5.out⟩
    have HGo : Hid (root % 4096 = 0 → (allS (lkL (fL (rs ++ ds) M)) ydL ctL root { s := [], left := 3000, go := true }).go = true) := fun h => (hb1 h).symm
    clear hb1 hb2
    have HVm : Hid (∀ W, Calls Tryz.prog 15 #[.iface 28 (.pointer (some ⟨m, 0, none⟩)), .int .u64 (root : Int), .int .i64 3000] W _) := fun W => leaves_call (.iface 28 (.pointer (some ⟨m, 0, none⟩))) (.inr ⟨_, _, rfl⟩) root 3000 W
    go_wp2_with fail
    refine (HVm.out _).mono ?_
    rintro e w6 ⟨rfl, h6a, h6b, h6c, h6d, h6e⟩
    have HA6 := Lib.hid h6a
    have HO6 := Lib.hid h6b
    have HR6 := Lib.hid h6c
    have HB6 := Lib.hid h6e
    have HS6 := Lib.hid h6d
    clear h6a h6b h6c h6d h6e HVm
    have hnf := eql_seq_nil
    go_wp2_with fail
    have HB6w : Hid (Below w.heap.size w w6) := HB5.out.trans (HB6.out.mono HB5.out.size)
    have HM6 : Hid (Mx w6 m B V T M rs ds 2305843009213693952) := HM5.out.below HB6.out
    have HSl6 : Hid (SlAt w6 w3.heap.size 55 (.slice none 0 0)) := HSl5.out.below HB6.out
    have HSw6 : Hid (SlAt w6 (w3.heap.size + 1) 56 (.slice none 0 0)) := HSw5.out.below HB6.out
    have HAr : Hid (w.heap.size < w1.heap.size ∧ w1.heap.size ≤ m ∧ m < w3.heap.size ∧ w3.heap.size + 2 ≤ w5.heap.size ∧ w6.heap.size = w5.heap.size + 3) := ⟨hl1, hmw, hm3, hs5, HS6.out⟩
    have HMj : Hid (∀ j, Mine m B V T j → j < w3.heap.size ∧ w1.heap.size ≤ j) := fun j hj => ⟨HMl.out j hj, HMi.out j hj⟩
    clear HM5 HSl5 HSw5 HB5 HS6 hs5 hl1 hmw hm3 hv3 hvb hnf
    obtain ⟨bl, hbl⟩ : ∃ bl, bl = w3.heap.size := ⟨_, rfl⟩
    rw [← hbl] at HSl6 HSw6 HAr HMj ⊢
    clear hbl
    refine (wpIn_wide (n := 20)).1 ?_
    refine range_out (F := Fence.wide) rfl (by decide) (gf := 40) (lb := #[.pointer (some ⟨w5.heap.size, 0, none⟩), .pointer (some ⟨w5.heap.size + 2, 0, none⟩), .pointer (some ⟨w5.heap.size + 1, 0, none⟩)]) rfl trivial (enters_of Tryz.func40 (by kernel_rfl) rfl)
      (fun V7 => ∃ L, GL (rs ++ ds) M root L ∧ Rows2 bl (bl + 1) (w6.heap.size + 2) L V7 ∧ Mx V7 m B V T M rs ds 2305843009348174336 ∧ Keeps (fun k => k = m ∨ k = bl ∨ k = bl + 1) w6 V7 ∧ V7.heap[w6.heap.size]? = some (.deferred (some []))) (fun _ _ => False) ?it ?fin ?stop
    case stop => exact fun c V h => h.elim
    case it =>
      intro W7 r _ hrt hrp hra hrb hW7
      obtain ⟨l0, hl0⟩ : ∃ l, l = w6.heap.size + 1 := ⟨_, rfl⟩
      have HRc : Hid (RecAt W7 l0 r .ready none) := by
        have := World.alloc_heap_new (w6.alloc (.deferred (some []))) (.loop (recS r .ready none))
        rw [World.size_alloc, ← hW7, ← hl0] at this
        exact this
      have HDf : Hid (W7.heap[w6.heap.size]? = some (.deferred (some []))) := by
        show _ = _
        rw [hW7, Below.heap_alloc _ _ _ (by simp)]
        exact World.alloc_heap_new _ _
      have HB7 : Hid (Below w6.heap.size w6 W7) := hW7 ▸ (((Below.refl _ w6).alloc (Nat.le_refl _) _).alloc (by simp) _)
      have HS7 : Hid (W7.heap.size = w6.heap.size + 2) := by show _ = _; rw [hW7]; simp
      clear hW7
      have HA7 : Hid (w6.heap.size < l0 ∧ l0 < W7.heap.size ∧ W7.heap.size = w6.heap.size + 2 ∧ l0 = w6.heap.size + 1 ∧ w.heap.size < w1.heap.size ∧ w1.heap.size ≤ m ∧ m < bl ∧ bl + 2 ≤ w5.heap.size ∧ w6.heap.size = w5.heap.size + 3) := ⟨by omega, HRc.out.lt, HS7.out, hl0, HAr.out⟩
      rw [← hl0]
      clear hl0 HS7
      have HI7 : Hid (LeI m B V T M rs ds 2305843009213693952 l0 r bl (bl + 1) W7 0 [] W7) := by
        refine ⟨HM6.out.below HB7.out, HRc.out, ⟨.slice none 0 0, .slice none 0 0, HSl6.out.below HB7.out, HSw6.out.below HB7.out, OwnLf6.nil _ _, OwnEr1.nil _ _, fun k e => (by cases e), fun k e => (by cases e)⟩, Keeps.refl _ _⟩
      have HTell : Hid (∀ n k (L : List Lf) W (v0 ph pg : Nat) (bg wt ex : Bool) (wy : Int), L.length ≤ 1099511627776 → W7.heap.size ≤ W.heap.size → LeI m B V T M rs ds 2305843009213693952 l0 r bl (bl + 1) W7 k L W → YieldAt Fence.wide n Tryz.prog l0 #[.agg #[.int .u64 (v0 : Int), .int .u64 (ph : Int), .int .i64 (pg : Int), .bool bg, .bool wt, .bool ex], .int .i64 wy] W fun e W' => e = .returned (.bool true) ∧ LeI m B V T M rs ds 2305843009213693952 l0 r bl (bl + 1) W7 k (L ++ [(v0, ph, pg, bg, wt, ex, wy)]) W' ∧ KeepsR (fun k => k = m ∨ k = bl ∨ k = bl + 1 ∨ k = l0) W W') := by
        intro n k L W v0 ph pg bg wt ex wy hlen hN hI
        refine yield_of (F := Fence.wide) hI.record (by rw [hrp]; rfl) trivial ?_
        rw [hra, hrt, hrp]
        have HI := Lib.hid hI
        clear hI
        gi_wp2
        refine ⟨(Below.heap_alloc W _ _ HI.out.record.lt).trans HI.out.record, ?_⟩
        intro hbusy
        obtain ⟨Vb, hVb⟩ : ∃ Vb, (W.alloc (Obj.cells #[.int .u64 (v0 : Int), .int .u64 (ph : Int), .int .i64 (pg : Int), .bool bg, .bool wt, .bool ex] 64)).putObj l0 (.loop (recS r .busy none)) = Vb := ⟨_, rfl⟩
        have hlw0 := HI.out.record.lt
        have hKb : Keeps (fun k => k = l0) W Vb := hVb ▸ (Keeps.alloc (S := fun k => k = l0) W _).trans (Keeps.putObj _ l0 _) (fun _ _ e => e)
        have HLb : Hid (BoxL Vb W.heap.size v0 ph (pg : Int) bg wt ex) := by
          show BoxL _ _ _ _ _ _ _ _
          rw [← hVb]
          show (World.putObj _ _ _).heap[_]? = _
          rw [World.putObj_heap_other (by omega)]
          exact World.alloc_heap_new W _
        rw [hVb] at hbusy ⊢
        clear hVb
        have ha7 := HA7.out
        have hRb : Rows2 bl (bl + 1) W7.heap.size L Vb := HI.out.rows.keeps hKb (show ¬ bl = l0 by omega) (show ¬ bl + 1 = l0 by omega) (fun k hk e => by
          have e : k = l0 := e
          subst e
          exact HI.out.record.notRw hk)
        obtain ⟨a, n1, c, a2, n2, c2, b, nb, cb, w8, e1, e2, e3, e4, e5, kr1, kk1, f1, f2, f3, f4, f5⟩ := tell1 (v0, ph, pg, bg, wt, ex, wy) hRb (by omega) hlen (Nat.le_trans hN hKb.size)
        dsimp only at e2
        obtain ⟨W9, hW9⟩ : ∃ W9, w8.setCell ⟨bl, 0, none⟩ (.slice a2 n2 c2) = W9 := ⟨_, rfl⟩
        rw [hW9] at e5 kr1 kk1 f1 f2 f3 f4 f5
        obtain ⟨b2, n3, c3, w10, g1, g2, g3, kr2, kk2, g4⟩ := tell2 (x := (v0, ph, pg, bg, wt, ex, wy)) (by omega) hlen (Nat.le_trans hN (Nat.le_trans hKb.size kr1.size)) f1 f2 f3 f4 f5
        dsimp only at g1
        have kk : Keeps (fun k => k = l0 ∨ k = bl ∨ k = bl + 1 ∨ W7.heap.size ≤ k) W (w10.setCell ⟨bl + 1, 0, none⟩ (.slice b2 n3 c3)) := ((hKb.mono (S' := fun k => k = l0 ∨ k = bl ∨ k = bl + 1 ∨ W7.heap.size ≤ k) (fun _ _ e => .inl e)).trans kk1 (fun _ _ e => .inr (e.elim .inl (fun e => .inr (.inr e))))).trans kk2 (fun _ _ e => .inr (.inr e))
        have hbusy2 : RecAt (w10.setCell ⟨bl + 1, 0, none⟩ (.slice b2 n3 c3)) l0 r .busy none := ((RecAt.keepsR hbusy kr1 (show ¬ l0 = bl by omega)).keepsR kr2 (show ¬ l0 = bl + 1 by omega))
        have HFin : Hid (RecAt (w10.setCell ⟨bl + 1, 0, none⟩ (.slice b2 n3 c3)) l0 r .busy none ∧ ((.returned (.bool true) : Ending) = .returned (.bool true) ∧ LeI m B V T M rs ds 2305843009213693952 l0 r bl (bl + 1) W7 k (L ++ [(v0, ph, pg, bg, wt, ex, wy)]) ((w10.setCell ⟨bl + 1, 0, none⟩ (.slice b2 n3 c3)).putObj l0 (.loop (recS r .ready none))) ∧ KeepsR (fun k => k = m ∨ k = bl ∨ k = bl + 1 ∨ k = l0) W ((w10.setCell ⟨bl + 1, 0, none⟩ (.slice b2 n3 c3)).putObj l0 (.loop (recS r .ready none))))) := by
          refine ⟨hbusy2, rfl, ⟨?_, World.putObj_heap_same hbusy2.lt, ?_, (HI.out.low.trans kk (fun k _ e => by omega)).trans (Keeps.putObj _ l0 _) (fun k _ e => by omega)⟩, ?_⟩
          · refine (HI.out.mac.keeps kk (fun j hj e => ?_)).keeps (Keeps.putObj _ l0 _) (fun j hj e => ?_)
            · have := HMj.out j hj
              omega
            · have := HMj.out j hj
              omega
          · exact g4.keeps (Keeps.putObj _ l0 _) (show ¬ bl = l0 by omega) (show ¬ bl + 1 = l0 by omega) (fun k hk e => by
              have e : k = l0 := e
              subst e
              exact hbusy2.notRw hk)
          · exact (((hKb.r.mono (S' := fun k => k = m ∨ k = bl ∨ k = bl + 1 ∨ k = l0) (fun _ _ e => .inr (.inr (.inr e)))).trans kr1 (fun _ _ e => .inr (.inl e))).trans kr2 (fun _ _ e => .inr (.inr (.inl e)))).trans (KeepsR.putObj _ l0 _) (fun _ _ e => .inr (.inr (.inr e)))
        obtain ⟨y0, y1, y2, y3, y4, y5⟩ := HLb.out.cells
        have HBy := Lib.hid hbusy
        clear hKb hRb kr1 kk1 f1 f2 f3 f4 f5 kr2 kk2 g4 kk hbusy2 HLb HI hbusy
        clear HAr HMj HB6 HB6w HM6 HSl6 HSw6 HRc HDf HB7 HI7 HGo HA6 HO6 HR6 HMl HMi HMv HU HVs HLn HR HD HB1 HA7 ha7
        gi_wp2
        obtain ⟨z1, _, z2⟩ := HFin.out
        exact ⟨z1, rfl, z2⟩
      have HEnd : Hid (∀ (W' : World) (k : Nat) (L : List Lf), k ≤ 134480384 → GL (rs ++ ds) M root L → LeI m B V T M rs ds 2305843009213693952 l0 r bl (bl + 1) W7 k L W' → KeepsR (fun k => k = m ∨ k = bl ∨ k = bl + 1 ∨ k = l0) W7 W' → RecAt W' l0 r .ready none ∧ ∃ L, GL (rs ++ ds) M root L ∧ Rows2 bl (bl + 1) (w6.heap.size + 2) L (W'.putObj l0 (.loop (recS r .exhausted none))) ∧ Mx (W'.putObj l0 (.loop (recS r .exhausted none))) m B V T M rs ds 2305843009348174336 ∧ Keeps (fun k => k = m ∨ k = bl ∨ k = bl + 1) w6 (W'.putObj l0 (.loop (recS r .exhausted none))) ∧ (W'.putObj l0 (.loop (recS r .exhausted none))).heap[w6.heap.size]? = some (.deferred (some []))) := by
        intro W' k L hk hG hI hK
        have ha7 := HA7.out
        refine ⟨hI.record, L, hG, ?_, ?_, ?_, ?_⟩
        · have := hI.rows
          rw [ha7.2.2.1] at this
          exact this.keeps (Keeps.putObj _ l0 _) (show ¬ bl = l0 by omega) (show ¬ bl + 1 = l0 by omega) (fun k hk e => by
            have e : k = l0 := e
            subst e
            exact hI.record.notRw hk)
        · exact (hI.mac.mono (by omega)).keeps (Keeps.putObj _ l0 _) (fun j hj e => by
            have := HMj.out j hj
            omega)
        · exact ((Keeps.of_below (S := fun k => k = m ∨ k = bl ∨ k = bl + 1) HB7.out).trans hI.low (fun i hi e => by omega)).trans (Keeps.putObj _ l0 _) (fun i hi e => by omega)
        · rw [World.putObj_heap_other (by omega)]
          exact (hI.low.block _ (by omega) (by omega)).trans HDf.out
      have ha7 := HA7.out
      have hbm : W7.cell? ⟨w5.heap.size, 0, none⟩ = some (.iface 28 (.pointer (some ⟨m, 0, none⟩))) := (HB7.out.cell (p := ⟨w5.heap.size, 0, none⟩) (by show w5.heap.size < _; omega)).trans HA6.out
      have hbo : W7.cell? ⟨w5.heap.size + 2, 0, none⟩ = some (.int .i64 ((3000 : Nat) : Int)) := (HB7.out.cell (p := ⟨w5.heap.size + 2, 0, none⟩) (by show w5.heap.size + 2 < _; omega)).trans HO6.out
      have hbr : W7.cell? ⟨w5.heap.size + 1, 0, none⟩ = some (.int .u64 (root : Int)) := (HB7.out.cell (p := ⟨w5.heap.size + 1, 0, none⟩) (by show w5.heap.size + 1 < _; omega)).trans HR6.out
      by_cases hpg : root % 4096 = 0
      · have E : RvEnv (lkC (fL (rs ++ ds) M)) ydC ctC (fun _ => True) (fun s => s.2.length) 3000 (fun s => s.1) 134480384 (fun s W => LeI m B V T M rs ds 2305843009213693952 l0 r bl (bl + 1) W7 s.1 (s.2.map lfOf) W) (fun k => k = m ∨ k = bl ∨ k = bl + 1 ∨ k = l0) W7.heap.size l0 28 (.pointer (some ⟨m, 0, none⟩)) := by
          refine ⟨livesC _, ?_, ?_, ?_, ?_, ?_, fun s a b c => Nat.le_refl _, fun s x => Nat.le_refl _⟩
          · intro s A B' h hb
            have hk : Keeps (fun k => W7.heap.size ≤ k ∧ ¬ Rw A k) A B' := ⟨hb.os, hb.tape, hb.output, hb.size, fun i hi hn => hb.block i hi (by
              by_cases h1 : i < W7.heap.size
              · exact .inl h1
              · by_cases h2 : Rw A i
                · exact .inr h2
                · exact absurd ⟨by omega, h2⟩ hn)⟩
            exact ⟨h.mac.keeps hk (fun j hj e => by have := HMj.out j hj; omega), (hb.block l0 h.record.lt (.inl (by omega))).trans h.record, h.rows.belowR hb (by omega) (by omega), h.low.trans hk (fun k _ e => .inr e.1)⟩
          · intro k hk
            omega
          · intro s W fr i lev hlev hi hfr hc _ hN hI
            refine (lookx_any (t := fr) (k := i) (l := (lev : Int)) hI.mac (by omega) (by have : s.1 < 134480384 := hc; omega)).mono ?_
            rintro e w' ⟨rfl, hm', hk'⟩
            refine ⟨rfl, ⟨?_, (hk'.block l0 hI.record.lt (show ¬ l0 = m by omega)).trans hI.record, ?_, hI.low.trans hk' (fun k _ e => .inl (.inl e))⟩, hk'.mono (fun _ _ e => .inl e)⟩
            · show Mx w' m B V T M rs ds (2305843009213693952 + (s.1 + 1))
              rw [← Nat.add_assoc]
              exact hm'
            · refine hI.rows.keeps hk' (show ¬ bl = m by omega) (show ¬ bl + 1 = m by omega) (fun k hk e => ?_)
              have e : k = m := e
              subst e
              exact mx_notRw hI.mac hk
          · intro s fr i lev
            have := lookF_frame (rs ++ ds) M (fr + 8 * i) (lev : Int)
            show (lookF (rs ++ ds) M (fr + 8 * i) (lev : Int)).1.1 + 4096 ≤ _
            omega
          · intro n s W x hx1 hx2 hx3 _ hb hN hI
            refine (HTell.out n s.1 (s.2.map lfOf) W x.1 x.2.2.1.1 (pgs x.2.1) x.2.2.1.2.2.1 x.2.2.1.2.2.2.1 x.2.2.1.2.2.2.2 x.2.2.2 (by rw [List.length_map]; have : s.2.length < 3000 := hb; omega) hN hI).mono ?_
            rintro e W' ⟨rfl, h1, h2⟩
            refine ⟨rfl, ?_, h2⟩
            show LeI m B V T M rs ds 2305843009213693952 l0 r bl (bl + 1) W7 s.1 ((s.2 ++ [x]).map lfOf) W'
            rw [List.map_append]
            exact h1
        refine (leaves1_r E (n := 20 - 1) (root := root) (most := 3000) (s0 := (0, [])) (by decide) rfl hbm (by omega) hbo hbr hpg (by omega) (by decide) (by decide) (by decide) rfl (by decide) trivial HI7.out).mono ?_
        rintro e W' ⟨he, hI', hk'⟩
        have hT : (allS (lkC (fL (rs ++ ds) M)) ydC ctC root { s := (0, []), left := 3000, go := true }).s.2 = (allS (lkL (fL (rs ++ ds) M)) ydL ctL root { s := [], left := 3000, go := true }).s := by
          have h' := congrArg St.s (all_pj (fL (rs ++ ds) M) root { s := (0, []), left := 3000, go := true })
          generalize allS (lkC (fL (rs ++ ds) M)) ydC ctC root { s := (0, []), left := 3000, go := true } = Tf at h' ⊢
          exact h'
        rw [hT] at hI'
        exact ⟨he, .inl (HEnd.out W' _ _ (all_cnt _ _) (gl_good (tells_of (HGo.out hpg)) hpg (all_len _ _)) hI' hk')⟩
      · refine (leaves1_bad (n := 20 - 1) (l0 := l0) (bk := true) (most := 3000) (R := fun W'' => LeI m B V T M rs ds 2305843009213693952 l0 r bl (bl + 1) W7 0 ([] ++ [(0, 0, 134217728, false, false, false, 42)]) W'' ∧ KeepsR (fun k => k = m ∨ k = bl ∨ k = bl + 1 ∨ k = l0) W7 W'') hbm hbo hbr hpg (by decide) ?_).mono ?_
        · intro W' hb
          have hI : LeI m B V T M rs ds 2305843009213693952 l0 r bl (bl + 1) W7 0 [] W' := ⟨HI7.out.mac.below hb, (hb.block l0 HI7.out.record.lt).trans HI7.out.record, HI7.out.rows.belowR (BelowR.of_below (n := W7.heap.size) hb) (by omega) (by omega), Keeps.of_below hb⟩
          refine (HTell.out _ 0 [] W' 0 0 134217728 false false false 42 (by decide) hb.size hI).mono ?_
          rintro e W'' ⟨rfl, h1, h2⟩
          exact ⟨rfl, h1, (KeepsR.of_below (S := fun k => k = m ∨ k = bl ∨ k = bl + 1 ∨ k = l0) hb).trans h2 (fun _ _ e => e)⟩
        · rintro e W' ⟨he, hI', hk'⟩
          exact ⟨he, .inl (HEnd.out W' 0 _ (by omega) (gl_bad hpg) hI' hk')⟩
    case fin =>
      rintro V7 ⟨L, hG, ⟨vl, vw', s1, s2, o1, o2, _, _⟩, hM7, hK7, hD7⟩
      obtain ⟨al, nl, cl, rfl, hnl, hcl⟩ := o1.form'
      obtain ⟨aw, nw, cw, rfl, hnw, hcw⟩ := o2.form'
      obtain rfl : nw = nl := by rw [hnl, hnw]
      unfold maxLen at hcl hcw
      have hlen : nw ≤ 3000 := by rw [hnl]; exact hG.len
      have HG := Lib.hid hG
      have HK7 := Lib.hid hK7
      have HD7 := Lib.hid hD7
      have HNl := Lib.hid hnl
      have HB7w : Hid (Below w.heap.size w V7) := HB6w.out.trans (hK7.below HB6w.out.size (fun i _ e => by have := HAr.out; omega))
      have HSt : Hid (∀ wr, Keeps (fun j => j = m) V7 wr → SlAt wr bl 55 (.slice al nw cl) ∧ SlAt wr (bl + 1) 56 (.slice aw nw cw) ∧ OwnLf6 wr (w6.heap.size + 2) (.slice al nw cl) L ∧ OwnEr1 wr (w6.heap.size + 2) (.slice aw nw cw) L) := fun wr hk => by
        have := HAr.out
        refine ⟨s1.keeps hk (by omega), s2.keeps hk (by omega), o1.keeps hk (fun k e e' => ?_), o2.keeps hk (fun k e e' => ?_)⟩
        · obtain ⟨_, _, _, _, _, f⟩ := o1.form
          have := (f k e).1
          omega
        · obtain ⟨_, _, _, _, _, f⟩ := o2.form
          have := (f k e).1
          omega
      have HS7 : Hid (Mx V7 m B V T M rs ds (2305843009348174336 + 6 * 0) ∧ Keeps (fun j => j = m) V7 V7) := ⟨hM7, Keeps.refl _ _⟩
      clear hG s1 s2 o1 o2 hM7 hK7 hD7 hnl hnw HSl6 HSw6 HM6 HB6 HB6w HA6 HO6 HR6 HGo HMi HMv HMl
      go_wp2_with fail
      go_loopw [18, 19] (fun ev iv wr => ∃ (En i : Nat), ev = .int .u64 (En : Int) ∧ iv = .int .i64 (i : Int) ∧ i ≤ nw ∧ Hid (∀ h : i < L.length, En ≤ (L[i]'h).1) ∧ Hid (Mx wr m B V T M rs ds (2305843009348174336 + 6 * i) ∧ Keeps (fun j => j = m) V7 wr)) (fun _ iv _ => nw - (intOf iv).toNat)
      case atStart => exact ⟨0, 0, rfl, rfl, Nat.zero_le _, fun h => Nat.zero_le _, HS7⟩
      case round =>
        obtain ⟨En, i, rfl, rfl, hi, HE, HW⟩ := hrel
        obtain ⟨p1, p2, p3, p4⟩ := HSt.out wr HW.out.2
        obtain ⟨c1, c2⟩ := p1.cell
        obtain ⟨d1, d2⟩ := p2.cell
        by_cases hlt : i < nw
        · have qi : (i : Int) < (nw : Int) := by omega
          have hiL : i < L.length := by rw [← HNl.out]; exact hlt
          obtain ⟨g, hal, hc⟩ := p3.cell i hiL
          obtain ⟨g2, haw, hw⟩ := p4.cell i hiL
          subst hal haw
          obtain ⟨x, hx⟩ : ∃ x, x = L[i] := ⟨_, rfl⟩
          have HXm : Hid (x ∈ L) := hx ▸ List.getElem_mem hiL
          have HXe : Hid (En ≤ x.1) := hx ▸ HE.out hiL
          have HXn : Hid (∀ h : i + 1 < L.length, x.1 + 4096 * x.2.2.1 ≤ (L[i + 1]'h).1) := fun h => by
            have := List.pairwise_iff_getElem.1 HG.out.ord i (i + 1) hiL h (by omega)
            rw [hx]
            exact this
          have HXv := Lib.hid hx.symm
          rw [← hx] at hc hw
          have k0 := hc 0 (by omega)
          have k1 := hc 1 (by omega)
          have k2 := hc 2 (by omega)
          have k3 := hc 3 (by omega)
          have k4 := hc 4 (by omega)
          have k5 := hc 5 (by omega)
          have k6 := hw 0 (by omega)
          obtain ⟨v0, ph, pg, bg, wt, ex, wy⟩ := x
          have HF := Lib.hid (HG.out.fit _ HXm.out)
          have HMp : Hid (∀ a, v0 ≤ a → a < v0 + 4096 * pg → MpR (rs ++ ds) M root v0 ph a wt ex wy) := HG.out.inn _ HXm.out
          dsimp only [encLf6, encEr1] at k0 k1 k2 k3 k4 k5 k6
          simp only [List.getElem?_cons_zero, List.getElem?_cons_succ, Nat.add_zero, Nat.mul_one] at k0 k1 k2 k3 k4 k5 k6
          clear hx hc hw HE HXm
          obtain ⟨f1, f2, f3⟩ := HF.out
          dsimp only at f1 f2 f3
          have he := HXe.out
          dsimp only at he
          go_upto_region 25 with fail
          obtain ⟨e2, he2⟩ : ∃ e2 : Nat, e2 = v0 + 4096 * pg := ⟨_, rfl⟩
          have he2i : (e2 : Int) = (v0 : Int) + (pg : Int) * 4096 := by omega
          go_cut [18] from 64 to 130 (fun y wx => y = .int .u64 (e2 : Int) ∧ wx = wr.drew)
          case first =>
            clear HSt HW HG HXe HXn HMp HF HU HVs HLn HR HD HB1 HMj HAr HK7 HD7 HNl HB7w HS7 p1 p2 p3 p4 d1 d2 k1 k3 k4 k5 k6
            go_region
            all_goals
              go_wp2_with fail
              go_meet
              refine ⟨?_, rfl⟩
              congr 1
              omega
          case rest =>
          obtain ⟨rfl, rfl⟩ := hcut
          have HKd : Hid (Keeps (fun j => j = m) V7 wr.drew.drew) := HW.out.2.drew.drew
          have HMd : Hid (Mx wr.drew.drew m B V T M rs ds (2305843009348174336 + 6 * i)) := HW.out.1
          have HCe : Hid (∀ wx, Keeps (fun j => j = m) V7 wx → wx.cell? ⟨bl, 0, none⟩ = some (.slice (some ⟨g, 0, none⟩) nw cl) ∧ wx.cell? ⟨bl + 1, 0, none⟩ = some (.slice (some ⟨g2, 0, none⟩) nw cw) ∧ wx.cell? ⟨g, i * 6, none⟩ = some (.int .u64 (v0 : Int)) ∧ wx.cell? ⟨g, i * 6 + 1, none⟩ = some (.int .u64 (ph : Int)) ∧ wx.cell? ⟨g, i * 6 + 2, none⟩ = some (.int .i64 (pg : Int)) ∧ wx.cell? ⟨g, i * 6 + 3, none⟩ = some (.bool bg) ∧ wx.cell? ⟨g, i * 6 + 4, none⟩ = some (.bool wt) ∧ wx.cell? ⟨g, i * 6 + 5, none⟩ = some (.bool ex) ∧ wx.cell? ⟨g2, i, none⟩ = some (.int .i64 wy)) := fun wx hk => by
            obtain ⟨p1, p2, p3, p4⟩ := HSt.out wx hk
            obtain ⟨g', hal, hc⟩ := p3.cell i hiL
            obtain ⟨g2', haw, hw⟩ := p4.cell i hiL
            cases hal
            cases haw
            rw [HXv.out] at hc hw
            exact ⟨p1.cell.1, p2.cell.1, hc 0 (by omega), hc 1 (by omega), hc 2 (by omega), hc 3 (by omega), hc 4 (by omega), hc 5 (by omega), by have := hw 0 (by omega); rw [Nat.mul_one] at this; exact this⟩
          have HMa : Hid (∀ wx q a, Mx wx m B V T M rs ds q → q ≤ 4611686018427380000 → v0 ≤ a → a < e2 → Calls Tryz.prog 16 #[.pointer (some ⟨m, 0, none⟩), .int .u64 (root : Int), .agg #[.int .u64 (v0 : Int), .int .u64 (ph : Int), .int .i64 (pg : Int), .bool bg, .bool wt, .bool ex], .int .i64 wy, .int .u64 (a : Int)] wx fun e w' => e = .returned (.bool true) ∧ Hid (Mx w' m B V T M rs ds (q + 3)) ∧ Hid (Keeps (fun j => j = m) wx w')) := fun wx q a h1 h2 h3 h4 => mapped_any h1 hroot (by omega) h3 f3 h2 (HMp.out a h3 (by omega))
          have HM1 := Lib.hid (fun wx (h : Mx wx m B V T M rs ds (2305843009348174336 + 6 * i)) => HMa.out wx _ v0 h (by omega) (Nat.le_refl _) (by omega))
          obtain ⟨e3, he3⟩ : ∃ e3 : Nat, (e2 : Int) - 1 = (e3 : Int) := ⟨e2 - 1, by omega⟩
          have HM2 : Hid (∀ wx (t : Int), Mx wx m B V T M rs ds (2305843009348174336 + 6 * i + 3) → t = (e2 : Int) - 1 → Calls Tryz.prog 16 #[.pointer (some ⟨m, 0, none⟩), .int .u64 (root : Int), .agg #[.int .u64 (v0 : Int), .int .u64 (ph : Int), .int .i64 (pg : Int), .bool bg, .bool wt, .bool ex], .int .i64 wy, .int .u64 t] wx fun e w' => e = .returned (.bool true) ∧ Hid (Mx w' m B V T M rs ds (2305843009348174336 + 6 * i + 3 + 3)) ∧ Hid (Keeps (fun j => j = m) wx w')) := fun wx t h ht => by
            rw [ht, he3]
            exact HMa.out wx _ e3 h (by omega) (by omega) (by omega)
          go_upto_region 26 with fail
          go_cut [130] from 64 to 130 (fun y wx => y = .bool false ∧ Hid (Mx wx m B V T M rs ds (2305843009348174336 + 6 * i + 3 + 3) ∧ Keeps (fun j => j = m) V7 wx))
          case first =>
            clear HMp HMa HSt HW HG HXe HXn HF HU HVs HLn HR HD HB1 HMj HAr HK7 HD7 HNl HB7w HS7 p1 p2 p3 p4 c1 c2 d1 d2 k0 k1 k2 k3 k4 k5 k6
            have HS0 := Lib.hid (HCe.out _ HKd.out)
            have hb2 : e2 ≤ 549755813888 := by omega
            have hb3 : 1 ≤ e2 := by omega
            clear HXv he2 he2i he3 hcl hcw hlen hi hiL qi hlw hla hroot f1 f2 f3 he
            go_region_held3 (fun wx => wx.cell? ⟨bl, 0, none⟩ = some (.slice (some ⟨g, 0, none⟩) nw cl) ∧ wx.cell? ⟨bl + 1, 0, none⟩ = some (.slice (some ⟨g2, 0, none⟩) nw cw) ∧ wx.cell? ⟨g, i * 6, none⟩ = some (.int .u64 (v0 : Int)) ∧ wx.cell? ⟨g, i * 6 + 1, none⟩ = some (.int .u64 (ph : Int)) ∧ wx.cell? ⟨g, i * 6 + 2, none⟩ = some (.int .i64 (pg : Int)) ∧ wx.cell? ⟨g, i * 6 + 3, none⟩ = some (.bool bg) ∧ wx.cell? ⟨g, i * 6 + 4, none⟩ = some (.bool wt) ∧ wx.cell? ⟨g, i * 6 + 5, none⟩ = some (.bool ex) ∧ wx.cell? ⟨g2, i, none⟩ = some (.int .i64 wy)) (first | exact HS2.out | exact HS1.out | exact HS0.out)
              (first
                | (go_at_call 16; refine (HM1.out _ HMd.out).mono ?_; rintro e x1 ⟨rfl, HMx1, HKx1⟩; have HKy1 := Lib.hid (HKd.out.trans HKx1.out (fun _ _ e => e)); have HS1 := Lib.hid (HCe.out _ HKy1.out); clear HMd HM1)
                | (go_at_call 16; refine (HM2.out _ _ HMx1.out (by first | rfl | omega | (rw [IntKind.wrap_u64]; omega))).mono ?_; rintro e x2 ⟨rfl, HMx2, HKx2⟩; have HKy2 := Lib.hid (HKy1.out.trans HKx2.out (fun _ _ e => e)); have HS2 := Lib.hid (HCe.out _ HKy2.out); clear HMx1 HM2))
            all_goals
              go_wp2_with fail
              go_meet
              exact ⟨rfl, HMx2.out, HKy2.out⟩
          case rest =>
          obtain ⟨rfl, HW2⟩ := hcut
          have HE2 : Hid (∀ h : i + 1 < L.length, e2 ≤ (L[i + 1]'h).1) := fun h => by
            have h2 := HXn.out h
            dsimp only at h2
            omega
          have HW3 : Hid (Mx wc m B V T M rs ds (2305843009348174336 + 6 * (i + 1)) ∧ Keeps (fun j => j = m) V7 wc) := ⟨HW2.out.1.mono (by omega), HW2.out.2⟩
          clear HMa HM1 HM2 HCe HKd HMd HW2 HW HXn HXe HXv HMp HF HSt HG
          go_wp2_with fail
          exact ⟨⟨e2, i + 1, rfl, by go_num, by omega, HE2, HW3⟩, by simp [intOf]; omega⟩
        · have qi : ¬ (i : Int) < (nw : Int) := by omega
          have HW2 : Hid (Mx wr m B V T M rs ds (2305843009348192336 + 4 * 0) ∧ Keeps (fun j => j = m) V7 wr) := ⟨HW.out.1.mono (by omega), HW.out.2⟩
          clear HW HE
          obtain ⟨N3, hN3⟩ : ∃ N3, N3 = qs.length := ⟨_, rfl⟩
          have HN3 := Lib.hid hN3
          rw [← hN3] at hla
          have hva := HVs.out
          rw [← hN3] at hva
          subst hva
          clear hN3 HVs
          go_wp2_with fail
          go_loopw [20] (fun iv wr => ∃ i : Nat, iv = .int .i64 (i : Int) ∧ i ≤ N3 ∧ Hid (Mx wr m B V T M rs ds (2305843009348192336 + 4 * i) ∧ Keeps (fun j => j = m) V7 wr)) (fun iv _ => N3 - (intOf iv).toNat)
          case atStart => exact ⟨0, rfl, Nat.zero_le _, HW2⟩
          case round =>
            obtain ⟨i2, rfl, hi2, HW⟩ := hrel
            clear HW2
            by_cases hlt : i2 < N3
            · have qi2 : (i2 : Int) < (N3 : Int) := by omega
              have HBr : Hid (Below w.heap.size w wr) := HB7w.out.trans (HW.out.2.below HB7w.out.size (fun j _ e => by have := HAr.out; omega))
              obtain ⟨hq0, ao, cp, hsl, _, hcp, _, hcell⟩ := HU.out.below HBr.out (Nat.le_refl _)
              have hiq : i2 < qs.length := by rw [← HN3.out]; exact hlt
              obtain ⟨gq, off, rfl, hcq⟩ := hcell i2 hiq
              rw [← HN3.out] at hsl
              injection hsl with hsl1 hsl2 hsl3
              subst hsl1 hsl3
              unfold maxLen at hcp
              obtain ⟨q, hq⟩ : ∃ q : Nat, qs[i2] = (q : Int) := ⟨qs[i2].toNat, by have := hq0 _ (List.getElem_mem hiq); omega⟩
              have hq1 : q ≤ 18446744073709551615 := by have := hq0 _ (List.getElem_mem hiq); omega
              rw [hq] at hcq
              obtain ⟨a, ha⟩ : ∃ a : Nat, a = q % 549755813888 := ⟨_, rfl⟩
              have hal : a < 549755813888 := by omega
              have hqm : (q : Int) % 549755813888 = (a : Int) := by omega
              have hqt : (q : Int).tmod 549755813888 = (a : Int) := by rw [Int.tmod_eq_emod_of_nonneg (by omega)]; exact hqm
              have HW4 : Hid (Mx wr m B V T M rs ds (2305843009348192336 + 4 * i2) ∧ Keeps (fun j => j = m) V7 wr) := HW
              clear hcell hq0 hq ha HW HBr
              go_upto_region 32 with fail
              clear hqm hqt hcq hq1
              go_wp2_with fail
              go_loopw [22, 23] (fun nv jv wq => ∃ (j : Nat) (inn : Int), nv = .int .i64 inn ∧ jv = .int .i64 (j : Int) ∧ j ≤ nw ∧ -1 ≤ inn ∧ inn ≤ 3000 ∧ Hid (InR L a j inn) ∧ Hid (Mx wq m B V T M rs ds (2305843009348192336 + 4 * i2) ∧ Keeps (fun j => j = m) V7 wq)) (fun _ jv _ => nw - (intOf jv).toNat)
              case atStart => exact ⟨0, -1, rfl, rfl, Nat.zero_le _, by omega, by omega, .inl ⟨rfl, fun k _ hk => absurd hk (by omega)⟩, HW4⟩
              case round =>
                obtain ⟨j, inn, rfl, rfl, hj, hn1, hn2, HIn, HWq⟩ := hrel
                clear HW4
                obtain ⟨p1, p2, p3, p4⟩ := HSt.out wr HWq.out.2
                obtain ⟨c1, c2⟩ := p1.cell
                obtain ⟨d1, d2⟩ := p2.cell
                by_cases hjl : j < nw
                · have qj : (j : Int) < (nw : Int) := by omega
                  have hjL : j < L.length := by rw [← HNl.out]; exact hjl
                  obtain ⟨g, hal2, hc⟩ := p3.cell j hjL
                  subst hal2
                  obtain ⟨x, hx⟩ : ∃ x, x = L[j] := ⟨_, rfl⟩
                  have HF := Lib.hid (HG.out.fit _ (List.getElem_mem hjL))
                  rw [← hx] at hc HF
                  have k0 := hc 0 (by omega)
                  have k2 := hc 2 (by omega)
                  obtain ⟨v0, ph, pg, bg, wt, ex, wy⟩ := x
                  dsimp only [encLf6] at k0 k2
                  simp only [List.getElem?_cons_zero, List.getElem?_cons_succ, Nat.add_zero] at k0 k2
                  have HXj : Hid (L[j] = (v0, ph, pg, bg, wt, ex, wy)) := hx.symm
                  obtain ⟨f1, f2, f3⟩ := HF.out
                  dsimp only at f1 f2 f3
                  clear hx hc p1 p2 p3 p4 d1 d2 HF
                  by_cases h1 : v0 ≤ a
                  · obtain ⟨d, hd⟩ : ∃ d : Nat, (a : Int) - (v0 : Int) = (d : Int) := ⟨a - v0, by omega⟩
                    by_cases h2 : a < v0 + 4096 * pg
                    · have HIn2 : Hid (InR L a (j + 1) (j : Int)) := .inr ⟨j, rfl, hjL, by rw [HXj.out]; exact ⟨h1, h2⟩⟩
                      have HWd : Hid (∀ nq, Mx (wr.drewN nq) m B V T M rs ds (2305843009348192336 + 4 * i2) ∧ Keeps (fun j => j = m) V7 (wr.drewN nq)) := fun nq => ⟨HWq.out.1.below (below_drewNn _ _), HWq.out.2.trans (Keeps.of_below (S := fun _ => False) (below_drewNn _ _)) (fun _ _ e => e.elim)⟩
                      have h1i : decide ((v0 : Int) ≤ (a : Int)) = true := decide_eq_true (by omega)
                      have h2i : decide ((d : Int) < (pg : Int) * 4096) = true := decide_eq_true (by omega)
                      clear HIn HWq HSt HG HXj HU HAr HMj HB7w HN3
                      go_upto_region 36 with fail
                      go_quiet (fail)
                      go_wp2_with fail
                      exact ⟨⟨j + 1, (j : Int), rfl, by go_num, by omega, by omega, by omega, HIn2, HWd.out _⟩, by simp [intOf]; omega⟩
                    · have HIn2 : Hid (InR L a (j + 1) inn) := InR.next HIn.out (fun h => by rw [HXj.out]; exact fun e => h2 e.2)
                      have HWd : Hid (∀ nq, Mx (wr.drewN nq) m B V T M rs ds (2305843009348192336 + 4 * i2) ∧ Keeps (fun j => j = m) V7 (wr.drewN nq)) := fun nq => ⟨HWq.out.1.below (below_drewNn _ _), HWq.out.2.trans (Keeps.of_below (S := fun _ => False) (below_drewNn _ _)) (fun _ _ e => e.elim)⟩
                      have h1i : decide ((v0 : Int) ≤ (a : Int)) = true := decide_eq_true (by omega)
                      have h2i : decide ((d : Int) < (pg : Int) * 4096) = false := decide_eq_false (by omega)
                      clear HIn HWq HSt HG HXj HU HAr HMj HB7w HN3
                      go_upto_region 36 with fail
                      go_quiet (fail)
                      go_wp2_with fail
                      exact ⟨⟨j + 1, inn, rfl, by go_num, by omega, hn1, hn2, HIn2, HWd.out _⟩, by simp [intOf]; omega⟩
                  · have HIn2 : Hid (InR L a (j + 1) inn) := InR.next HIn.out (fun h => by rw [HXj.out]; exact fun e => h1 e.1)
                    have HWd : Hid (∀ nq, Mx (wr.drewN nq) m B V T M rs ds (2305843009348192336 + 4 * i2) ∧ Keeps (fun j => j = m) V7 (wr.drewN nq)) := fun nq => ⟨HWq.out.1.below (below_drewNn _ _), HWq.out.2.trans (Keeps.of_below (S := fun _ => False) (below_drewNn _ _)) (fun _ _ e => e.elim)⟩
                    have h1i : decide ((v0 : Int) ≤ (a : Int)) = false := decide_eq_false (by omega)
                    clear HIn HWq HSt HG HXj HU HAr HMj HB7w HN3
                    go_upto_region 36 with fail
                    go_quiet (fail)
                    go_wp2_with fail
                    exact ⟨⟨j + 1, inn, rfl, by go_num, by omega, hn1, hn2, HIn2, HWd.out _⟩, by simp [intOf]; omega⟩
                · have qj : ¬ (j : Int) < (nw : Int) := by omega
                  go_upto_region 38 with fail
                  go_cut [189] from 131 to 205 (fun y wx => y = .bool false ∧ Hid (Mx wx m B V T M rs ds (2305843009348192336 + 4 * i2 + 3) ∧ Keeps (fun j => j = m) V7 wx))
                  case first =>
                    rcases HIn.out with ⟨rfl, _⟩ | ⟨k, rfl, hkL, hk1, hk2⟩
                    · have HWd : Hid (∀ nq, Mx (wr.drewN nq) m B V T M rs ds (2305843009348192336 + 4 * i2 + 3) ∧ Keeps (fun j => j = m) V7 (wr.drewN nq)) := fun nq => ⟨(HWq.out.1.mono (by omega)).below (below_drewNn _ _), HWq.out.2.trans (Keeps.of_below (S := fun _ => False) (below_drewNn _ _)) (fun _ _ e => e.elim)⟩
                      clear HIn HWq HSt HG HU HAr HMj HB7w HN3 p1 p2 p3 p4 c1 c2 d1 d2
                      go_quiet (fail)
                      go_wp2_with fail
                      go_meet
                      exact ⟨rfl, HWd.out _⟩
                    · obtain ⟨g, hal2, hc⟩ := p3.cell k hkL
                      obtain ⟨g2, haw2, hw⟩ := p4.cell k hkL
                      subst hal2 haw2
                      obtain ⟨x, hx⟩ : ∃ x, x = L[k] := ⟨_, rfl⟩
                      have HXm : Hid (x ∈ L) := hx ▸ List.getElem_mem hkL
                      have HXv := Lib.hid hx.symm
                      rw [← hx] at hk1 hk2
                      obtain ⟨v0, ph, pg, bg, wt, ex, wy⟩ := x
                      have HMp := HG.out.inn _ HXm.out a hk1 hk2
                      obtain ⟨_, _, f3⟩ := HG.out.fit _ HXm.out
                      dsimp only at hk1 hk2 HMp f3
                      have HCe : Hid (∀ wx, Keeps (fun j => j = m) V7 wx → wx.cell? ⟨bl, 0, none⟩ = some (.slice (some ⟨g, 0, none⟩) nw cl) ∧ wx.cell? ⟨bl + 1, 0, none⟩ = some (.slice (some ⟨g2, 0, none⟩) nw cw) ∧ wx.cell? ⟨g, k * 6, none⟩ = some (.int .u64 (v0 : Int)) ∧ wx.cell? ⟨g, k * 6 + 1, none⟩ = some (.int .u64 (ph : Int)) ∧ wx.cell? ⟨g, k * 6 + 2, none⟩ = some (.int .i64 (pg : Int)) ∧ wx.cell? ⟨g, k * 6 + 3, none⟩ = some (.bool bg) ∧ wx.cell? ⟨g, k * 6 + 4, none⟩ = some (.bool wt) ∧ wx.cell? ⟨g, k * 6 + 5, none⟩ = some (.bool ex) ∧ wx.cell? ⟨g2, k, none⟩ = some (.int .i64 wy)) := fun wx hk => by
                        obtain ⟨p1, p2, p3, p4⟩ := HSt.out wx hk
                        obtain ⟨g', hal, hc⟩ := p3.cell k hkL
                        obtain ⟨g2', haw, hw⟩ := p4.cell k hkL
                        cases hal
                        cases haw
                        rw [HXv.out] at hc hw
                        exact ⟨p1.cell.1, p2.cell.1, hc 0 (by omega), hc 1 (by omega), hc 2 (by omega), hc 3 (by omega), hc 4 (by omega), hc 5 (by omega), by have := hw 0 (by omega); rw [Nat.mul_one] at this; exact this⟩
                      have HM1 : Hid (∀ wx, Mx wx m B V T M rs ds (2305843009348192336 + 4 * i2) → Calls Tryz.prog 16 #[.pointer (some ⟨m, 0, none⟩), .int .u64 (root : Int), .agg #[.int .u64 (v0 : Int), .int .u64 (ph : Int), .int .i64 (pg : Int), .bool bg, .bool wt, .bool ex], .int .i64 wy, .int .u64 (a : Int)] wx fun e w' => e = .returned (.bool true) ∧ Hid (Mx w' m B V T M rs ds (2305843009348192336 + 4 * i2 + 3)) ∧ Hid (Keeps (fun j => j = m) wx w')) := fun wx h1 => mapped_any h1 hroot hal hk1 f3 (by omega) HMp
                      have HKd : Hid (Keeps (fun j => j = m) V7 wr.drew) := HWq.out.2.drew
                      have HMd : Hid (Mx wr.drew m B V T M rs ds (2305843009348192336 + 4 * i2)) := HWq.out.1
                      have HS0 := Lib.hid (HCe.out _ HKd.out)
                      have hkn : k < nw := by rw [HNl.out]; exact hkL
                      have hki : (k : Int) < (nw : Int) := by omega
                      have hk0 : decide ((k : Int) ≥ 0) = true := decide_eq_true (by omega)
                      clear HIn HWq HSt HG HU HAr HMj HB7w HN3 p1 p2 p3 p4 c1 c2 d1 d2 hc hw hx HXm HXv hk1 hk2 HMp f3 hla hroot HK7 HD7 HNl HS7 hcl hcw hlen hkL
                      go_region_held3 (fun wx => wx.cell? ⟨bl, 0, none⟩ = some (.slice (some ⟨g, 0, none⟩) nw cl) ∧ wx.cell? ⟨bl + 1, 0, none⟩ = some (.slice (some ⟨g2, 0, none⟩) nw cw) ∧ wx.cell? ⟨g, k * 6, none⟩ = some (.int .u64 (v0 : Int)) ∧ wx.cell? ⟨g, k * 6 + 1, none⟩ = some (.int .u64 (ph : Int)) ∧ wx.cell? ⟨g, k * 6 + 2, none⟩ = some (.int .i64 (pg : Int)) ∧ wx.cell? ⟨g, k * 6 + 3, none⟩ = some (.bool bg) ∧ wx.cell? ⟨g, k * 6 + 4, none⟩ = some (.bool wt) ∧ wx.cell? ⟨g, k * 6 + 5, none⟩ = some (.bool ex) ∧ wx.cell? ⟨g2, k, none⟩ = some (.int .i64 wy)) (first | exact HS1.out | exact HS0.out)
                        (first
                          | (go_at_call 16; refine (HM1.out _ HMd.out).mono ?_; rintro e x1 ⟨rfl, HMx1, HKx1⟩; have HKy1 := Lib.hid (HKd.out.trans HKx1.out (fun _ _ e => e)); have HS1 := Lib.hid (HCe.out _ HKy1.out); clear HMd HM1))
                      all_goals
                        go_wp2_with fail
                        go_meet
                        exact ⟨rfl, HMx1.out, HKy1.out⟩
                  case rest =>
                  obtain ⟨rfl, HW5⟩ := hcut
                  have hinn : InR L a nw inn := by
                    have := HIn.out
                    rwa [show j = nw from by omega] at this
                  have HIn2 := Lib.hid hinn
                  clear HWq HIn hinn HSt p1 p2 p3 p4 c1 c2 d1 d2 qj
                  have HTr : Hid (Calls Tryz.prog 17 #[.iface 28 (.pointer (some ⟨m, 0, none⟩)), .int .u64 (root : Int), .int .u64 (a : Int), .int .i64 1] wc fun e w' => e = .returned (.tuple #[.int .u64 ((adrF (rs ++ ds) M root a 1).1 : Int), FaultV (adrF (rs ++ ds) M root a 1).2 (whyAt (adrF (rs ++ ds) M root a 1).2 a : Int)]) ∧ Hid (Mx w' m B V T M rs ds (2305843009348192336 + 4 * i2 + 3 + 1)) ∧ Hid (Keeps (fun j => j = m) wc w')) := translate_any (t := root) (v := a) (acc := 1) HW5.out.1 hroot (by omega) (by omega)
                  obtain ⟨P, K, hPK⟩ : ∃ (P : Nat) (K : Int), adrF (rs ++ ds) M root a 1 = (P, K) := ⟨_, _, rfl⟩
                  have HPK := Lib.hid hPK
                  rw [hPK] at HTr
                  unfold FaultV at HTr
                  dsimp only at HTr
                  obtain ⟨Aw, hAw⟩ : ∃ Aw, Aw = whyAt K a := ⟨_, rfl⟩
                  have HAw := Lib.hid hAw
                  rw [← hAw] at HTr
                  clear hPK hAw
                  go_upto_region 40 with fail
                  go_wp2_with fail
                  refine HTr.out.mono ?_
                  rintro e w8 ⟨rfl, HM8, HK8⟩
                  clear HTr
                  go_upto_region 41 with fail
                  obtain ⟨W8, hW8⟩ : ∃ W8, w8.alloc (Obj.cells #[.int .i64 K, .int .u64 (Aw : Int)] 68) = W8 := ⟨_, rfl⟩
                  have HB8 : Hid (Below w8.heap.size w8 W8) := hW8 ▸ (Below.refl _ _).alloc (Nat.le_refl _) _
                  have HF8 : Hid (BoxF W8 w8.heap.size K (Aw : Int)) := hW8 ▸ BoxF.new w8 K (Aw : Int)
                  have HW6 : Hid (Mx W8 m B V T M rs ds (2305843009348192336 + 4 * (i2 + 1)) ∧ Keeps (fun j => j = m) V7 W8) := ⟨(HM8.out.mono (by omega)).below HB8.out, (HW5.out.2.trans HK8.out (fun _ _ e => e)).trans (Keeps.of_below (S := fun _ => False) HB8.out) (fun _ _ e => e.elim)⟩
                  rw [hW8]
                  clear hW8 HM8 HK8 HB8 HW5
                  obtain ⟨x0, x1, _, _⟩ := HF8.out.cells
                  have hnq := nqlF
                  have hgq : ∀ W x y a b c d, (eqGuard .neq 68 x y (.agg #[.int .i64 a, .int .u64 b]) (.agg #[.int .i64 c, .int .u64 d])).run Tryz.prog W = .ok () W := fun W x y a b c d => run_eqGuard_agg W _ _ _ _ _ _ guardF
                  rcases HIn2.out with ⟨rfl, hno⟩ | ⟨k, rfl, _, _, _⟩
                  · have hadr := HG.out.out a hal (fun x hx => by
                      obtain ⟨k, hk, rfl⟩ := List.getElem_of_mem hx
                      exact hno k hk (by rw [HNl.out]; exact hk))
                    rw [HPK.out] at hadr
                    injection hadr with h1 h2
                    subst h1 h2
                    obtain rfl : Aw = a := HAw.out
                    clear HIn2 hno HPK HAw HG HU HAr HMj HB7w HN3 HF8
                    go_wp2_with fail
                    exact ⟨⟨i2 + 1, by go_num, by omega, HW6⟩, by simp [intOf]; omega⟩
                  · have hk0 : decide ((k : Int) < 0) = false := decide_eq_false (by omega)
                    clear HIn2 HPK HAw HG HU HAr HMj HB7w HN3 HF8
                    go_wp2_with fail
                    exact ⟨⟨i2 + 1, by go_num, by omega, HW6⟩, by simp [intOf]; omega⟩
            · have qi2 : ¬ (i2 : Int) < (N3 : Int) := by omega
              have hd9 : wr.heap[w6.heap.size]? = some (.deferred (some [])) := by
                have := HAr.out
                exact (HW.out.2.block _ (Array.getElem?_eq_some_iff.1 HD7.out).1 (by omega)).trans HD7.out
              have HD9 := Lib.hid hd9
              have HB9 : Hid (Below w.heap.size w (wr.putObj w6.heap.size (.deferred none))) := by
                have hh := HAr.out
                have k1 := HB7w.out.trans (HW.out.2.below HB7w.out.size (fun j _ e => by omega))
                have hz : w.heap.size ≤ wr.heap.size := k1.size
                exact k1.trans ((Keeps.putObj wr w6.heap.size (.deferred none)).below hz (fun i _ e => by omega))
              clear HW hd9
              go_wp2_with fail
              refine ⟨by simp, .inl ⟨_, _, rfl, run_takeDeferred HD9.out, ?_⟩⟩
              exact ⟨.bool true, by simp [results, Tryz.results5, go_sem], rfl, HB9.out⟩
  · have HG2 := Lib.hid (HG0.out h0 w1 HB1.out)
    obtain ⟨k, hk⟩ : ∃ k, k = refW rs ds := ⟨_, rfl⟩
    rw [← hk] at HRf h0
    have hkb : (k != 0) = true := by simpa using h0
    clear HSn HGr HG0 h0 hk HU HVs HLy
    go_wp2_with fail
    refine HG2.out.mono ?_
    rintro e w2 ⟨rfl, hb2⟩
    have HB2 : Hid (Below w.heap.size w w2) := HB1.out.trans (hb2.mono HB1.out.size)
    have z0 : w2.cell? ⟨w.heap.size, 0, none⟩ = some vr := (hb2.cell (p := ⟨w.heap.size, 0, none⟩) hl1).trans y0
    have z1 : w2.cell? ⟨w.heap.size, 1, none⟩ = some vd := (hb2.cell (p := ⟨w.heap.size, 1, none⟩) hl1).trans y1
    clear hb2 y0 y1 HG2 HB1
    go_wp2_with fail
    refine (HRf.out w2 HB2.out).mono ?_
    rintro e w3 ⟨rfl, hb3⟩
    have HB3 : Hid (Below w.heap.size w w3) := HB2.out.trans (hb3.mono HB2.out.size)
    clear hb3 HRf z0 z1
    go_wp2_with fail
    exact ⟨.bool true, by simp [results, Tryz.results5, go_sem], rfl, HB3.out⟩
end Go.Proofs.YtfnikcjcgneboaaGreat
