import Derived.Test.YtdkhhofgfbnmkaaGreatPf34
import Derived.Deep.RegionWith
import Derived.Test.YtdkhhofgfbnmkaaGreatPf32
/- The two machines of the law: grounds. Own work. -/
namespace Go.Proofs.YtdkhhofgfbnmkaaGreat
open Go.RowKit Go.Maps Go.Proofs.YtdkhhofgfbnmkaaGreat.Sp Wk
set_option maxHeartbeats 1000000 in
theorem rnewW_any {w : World} {vr vd : Value} : Calls Tryz.prog 10 #[.agg #[vr, vd]] w fun e w' => ∃ m, e = .returned (.pointer (some ⟨m, 0, none⟩)) ∧ Hid (RBox w' m vr vd (.slice none 0 0) 0 0 0) ∧ Hid (Below w.heap.size w w' ∧ w.heap.size ≤ m) := by
  go_enter Tryz.func10, Tryz.ntmps10
  go_wp2_with fail
  go_ret
  exact ⟨_, rfl, heap_alloc_newN (by simp) _, ((Below.refl _ _).alloc (Nat.le_refl _) _).alloc (by simp) _, by simp⟩
theorem sv_at {w : World} {ao : Option Addr} {n c : Nat} {xs : List Sp} (h : U64.SV w (.slice ao n c) xs) (j : Nat) (hj : j < xs.length) : ∃ g off, ao = some ⟨g, off, none⟩ ∧ w.cell? ⟨g, off + j * 2, none⟩ = some (.int .u64 xs[j].1) ∧ w.cell? ⟨g, off + j * 2 + 1, none⟩ = some (.int .u64 xs[j].2) := by
  obtain ⟨ao', cap, e, _, _, _, _, h5⟩ := h
  cases e
  exact h5 j hj
set_option maxRecDepth 100000 in
set_option maxHeartbeats 4000000 in
theorem grounds_any {w : World} {vr vd vw : Value} {rs ds ws : List Sp} (hr : U64.SV w vr rs) (hd : U64.SV w vd ds) (fr : Fits 18446744073709551615 rs) (fd : Fits 18446744073709551615 ds) (h0 : refW rs ds = 0) (hw : U64.SV w vw ws) (fw : Fits 18446744073709551615 ws) (hlw : ws.length ≤ 1152921504606846976) :
    Calls Tryz.prog 6 #[.agg #[vr, vd], vw] w fun e w' => ∃ m v base B V, e = .returned (.tuple #[.pointer (some ⟨m, 0, none⟩), .pointer (some ⟨v, 0, none⟩)]) ∧ Hid (GI w w' base m B V v vr vd rs ds ws.length ws.length) := by
  have HB0 : Hid (Below w.heap.size w (w.alloc (Obj.cells #[vr, vd] 24))) := (Below.refl _ _).alloc (Nat.le_refl _) _
  have HR0 : Hid (U64.SV w vr rs) := hr
  have HD0 : Hid (U64.SV w vd ds) := hd
  have HW0 : Hid (U64.SV w vw ws) := hw
  have HFw : Hid (Fits 18446744073709551615 ws) := fw
  have HSn := Lib.hid (refW_sane fr fd h0)
  have HX0 : Hid ((w.alloc (Obj.cells #[vr, vd] 24)).cell? ⟨w.heap.size, 0, none⟩ = some vr ∧ (w.alloc (Obj.cells #[vr, vd] 24)).cell? ⟨w.heap.size, 1, none⟩ = some vd) := U64.new2 rfl vr vd _
  have HRf : Hid (Calls Tryz.prog 7 #[.agg #[vr, vd]] (w.alloc (Obj.cells #[vr, vd] 24)) fun e w' => e = .returned (.int .i64 0) ∧ Below (w.alloc (Obj.cells #[vr, vd] 24)).heap.size (w.alloc (Obj.cells #[vr, vd] 24)) w') := by
    have h := refuses_any (hr.below HB0.out (Nat.le_refl _)) (hd.below HB0.out (Nat.le_refl _)) fr fd
    rw [h0] at h
    exact h
  have HNw : Hid (∀ W, Below w.heap.size w W → Calls Tryz.prog 16 #[.agg #[vr, vd]] W fun e w' => ∃ m B V, e = .returned (.tuple #[.pointer (some ⟨m, 0, none⟩), .int .i64 0]) ∧ Hid (Below W.heap.size W w') ∧ Hid (Mx w' m B V (fun _ => none) (fun _ => 0) rs ds 0 ∧ ∀ j, Mine m B V (fun _ => none) j → W.heap.size ≤ j)) := fun W hW => by
    refine (new_any (hr.below hW (Nat.le_refl _)) (hd.below hW (Nat.le_refl _)) fr fd).mono ?_
    rintro e w' ⟨pm, rfl, hb, hm⟩
    rcases hm.out with ⟨h1, _⟩ | ⟨_, m, B, V, rfl, h2, h3⟩
    · exact absurd h0 h1
    · exact ⟨m, B, V, by rw [h0], hb, ⟨0, 0, 0, Nat.le_refl _, Nat.le_refl _, Nat.le_refl _, h2⟩, h3⟩
  obtain ⟨aw, cw, rfl, hc1, hc2, hc3, hc4, hc5⟩ := hw
  unfold maxLen at hc2
  have HC := Lib.hid hc5
  obtain ⟨N, hN⟩ : ∃ N, N = ws.length := ⟨_, rfl⟩
  have HN : Hid (N = ws.length) := hN
  rw [← hN] at hc1 hlw HW0
  rw [← hN]
  clear hr hd fr fd fw hc3 hc4 hc5 h0 hN
  obtain ⟨x0, x1⟩ := HX0.out
  go_enter Tryz.func6, Tryz.ntmps6
  go_wp2_with fail
  refine HRf.out.mono ?_
  rintro e w1 ⟨rfl, hb1⟩
  have HB1 : Hid (Below w.heap.size w w1) := HB0.out.trans (hb1.mono HB0.out.size)
  have y0 : w1.cell? ⟨w.heap.size, 0, none⟩ = some vr := (hb1.cell (p := ⟨w.heap.size, 0, none⟩) (by simp)).trans HX0.out.1
  have y1 : w1.cell? ⟨w.heap.size, 1, none⟩ = some vd := (hb1.cell (p := ⟨w.heap.size, 1, none⟩) (by simp)).trans HX0.out.2
  have hl1 : w.heap.size < w1.heap.size := by have := hb1.size; simp at this; omega
  have HC1 := Lib.hid (HNw.out w1 HB1.out)
  clear HRf HNw HX0 x0 x1 hb1
  go_wp2_with fail
  refine HC1.out.mono ?_
  rintro e w2 ⟨m, B, V, rfl, HB2, HM2⟩
  have z0 : w2.cell? ⟨w.heap.size, 0, none⟩ = some vr := (HB2.out.cell (p := ⟨w.heap.size, 0, none⟩) hl1).trans y0
  have z1 : w2.cell? ⟨w.heap.size, 1, none⟩ = some vd := (HB2.out.cell (p := ⟨w.heap.size, 1, none⟩) hl1).trans y1
  have HB2' : Hid (Below w.heap.size w w2) := HB1.out.trans (HB2.out.mono HB1.out.size)
  have hl2 : w1.heap.size ≤ w2.heap.size := HB2.out.size
  clear HC1 y0 y1
  go_wp2_with fail
  refine rnewW_any.mono ?_
  rintro e w3 ⟨v, rfl, HV3, HB3⟩
  have HG3 : Hid (GI w w3 w2.heap.size m B V v vr vd rs ds 0 0) := ⟨_, _, HM2.out.1.below HB3.out.1, fun j hj => Nat.le_trans (Nat.le_of_lt hl1) (HM2.out.2 j hj), fun j hj => HM2.out.1.mine_lt hj, by omega, HB3.out.1.size, HB2'.out.trans (HB3.out.1.mono HB2'.out.size), _, [], 0, 0, 0, ⟨HB3.out.2, HV3.out, World.ownsRow_nil w3 _ _ 2, by simp⟩, Nat.le_refl _, Nat.le_refl _, Pn.nil⟩
  generalize w2.heap.size = base at HG3
  clear HM2 HB2 HB2' HV3 HB3 z0 z1 HB1 hl1 hl2 HB0
  go_wp2_with fail
  go_loopw [9] (fun iv wr => ∃ i : Nat, i ≤ N ∧ iv = .int .i64 (i : Int) ∧ Hid (GI w wr base m B V v vr vd rs ds i i)) (fun iv _ => N - (intOf iv).toNat)
  case atStart => exact ⟨0, Nat.zero_le _, rfl, HG3⟩
  case round =>
    obtain ⟨i, hi, rfl, HG⟩ := hrel
    by_cases hlt : i < N
    · have qi : (i : Int) < (N : Int) := by omega
      have hil : i < ws.length := by rw [← HN.out]; exact hlt
      have HBr : Hid (Below w.heap.size w wr) := by obtain ⟨_, _, _, _, _, _, _, h, _⟩ := HG.out; exact h
      obtain ⟨g, off, rfl, d0, d1⟩ := sv_at (HW0.out.below HBr.out (Nat.le_refl _)) i hil
      obtain ⟨p0, p1, p2, p3⟩ := HFw.out _ (List.getElem_mem hil)
      generalize hxi : ws[i] = x at *
      obtain ⟨x1, x2⟩ := x
      obtain ⟨a, rfl⟩ : ∃ a : Nat, x1 = (a : Int) := ⟨x1.toNat, by simp only at p0; omega⟩
      obtain ⟨val, rfl⟩ : ∃ a : Nat, x2 = (a : Int) := ⟨x2.toNat, by simp only at p2; omega⟩
      simp only at p0 p1 p2 p3 d0 d1
      have HS1 : Hid (∀ W, Below wr.heap.size wr W → Calls Tryz.prog 17 #[.pointer (some ⟨m, 0, none⟩), .int .u64 (a : Int), .int .i64 8, .int .u64 (val : Int)] W fun e w' => (∃ f, e = .returned f) ∧ Hid (GI w w' base m B V v vr vd rs ds (i + 1) i)) := fun W hW => g_store1 (HG.out.below hW) (by omega) (by omega) (by omega)
      have HS2 : Hid (∀ wq W, GI w wq base m B V v vr vd rs ds (i + 1) i → Below wq.heap.size wq W → Calls Tryz.prog 11 #[.pointer (some ⟨v, 0, none⟩), .int .u64 (a : Int), .int .i64 8, .int .u64 (val : Int)] W fun e w' => (∃ f, e = .returned f) ∧ Hid (GI w w' base m B V v vr vd rs ds (i + 1) (i + 1))) := fun wq W hG hW => g_store2 (hG.below hW) HR0.out HD0.out (by have := HSn.out.2; omega) (by omega) (by omega)
      have HXi : Hid (ws[i] = ((a : Int), (val : Int))) := hxi
      have HBd : Hid (Below wr.heap.size wr wr.drew) := (Below.refl _ _).drew
      clear hxi p0 p1 p2 p3
      go_wp2_with fail
      go_region_with (go_at_call 17; refine (HS1.out _ HBd.out).mono ?_; rintro e w4 ⟨⟨f, rfl⟩, HG4⟩)
      all_goals
        have HB4 : Hid (Below w.heap.size w w4) := by obtain ⟨_, _, _, _, _, _, _, h, _⟩ := HG4.out; exact h
        obtain ⟨g', off', hgo, e0, e1⟩ := sv_at (HW0.out.below HB4.out (Nat.le_refl _)) i hil
        cases hgo
        rw [HXi.out] at e0 e1
        simp only at e0 e1
        have HBd4 : Hid (Below w4.heap.size w4 w4.drew) := (Below.refl _ _).drew
        clear d0 d1 HS1 HBd
        go_wp2_with fail
        go_region_with (go_at_call 11; refine (HS2.out _ _ HG4.out HBd4.out).mono ?_; rintro e w5 ⟨⟨f', rfl⟩, HG5⟩)
        all_goals
          go_wp2_with fail
          go_roundw
          case rel => exact ⟨i + 1, by omega, by go_num, HG5⟩
          case measure => simp [intOf]; omega
    · obtain rfl : i = N := by omega
      go_wp2_with fail
      go_ret2
      exact ⟨m, v, base, B, V, rfl, HG⟩
end Go.Proofs.YtdkhhofgfbnmkaaGreat
/- The two machines of the law, what lies in both, and what they count. Own work. -/
namespace Go.Proofs.YtdkhhofgfbnmkaaGreat
open Go.RowKit Go.Maps Go.Proofs.YtdkhhofgfbnmkaaGreat.Sp Wk
/-- what a machine holds and what it has counted: its memory, loads, stores -/
abbrev Hs := (Nat → Nat) × Nat × Nat
open Classical in
noncomputable def stF (LL : List Sp) (a val : Nat) (p : Hs) : Hs := if ∀ i : Nat, i < 8 → On LL ((a : Int) + i) then (putAt p.1 a ((Pl.le 8 val).take 8), p.2.1, p.2.2 + 1) else p
theorem stF_off {LL : List Sp} {a val : Nat} {p : Hs} {x : Int} {b : Bool} (h : OffR LL a 8 x b) : stF LL a val p = if b then p else (putAt p.1 a ((Pl.le 8 val).take 8), p.2.1, p.2.2 + 1) := by
  unfold stF
  cases b with
  | true =>
    obtain ⟨i, hi, _, _, hn, _⟩ := h.1 rfl
    rw [if_neg (fun hh => hn (hh i hi))]
    rfl
  | false =>
    rw [if_pos (h.2 rfl).2]
    rfl
theorem stF_le (LL : List Sp) (a val : Nat) (p : Hs) : (stF LL a val p).2.1 = p.2.1 ∧ (stF LL a val p).2.2 ≤ p.2.2 + 1 := by
  unfold stF
  split
  · exact ⟨rfl, Nat.le_refl _⟩
  · exact ⟨rfl, Nat.le_succ _⟩
noncomputable def layF (LL : List Sp) (ws : List Sp) : Hs := ws.foldl (fun p x => stF LL x.1.toNat x.2.toNat p) (fun _ => 0, 0, 0)
theorem layF_snoc (LL : List Sp) (ws : List Sp) (x : Sp) : layF LL (ws ++ [x]) = stF LL x.1.toNat x.2.toNat (layF LL ws) := by
  unfold layF
  rw [List.foldl_append]
  rfl
theorem layF_le (LL : List Sp) (ws : List Sp) : ∀ i, i ≤ ws.length → (layF LL (ws.take i)).2.1 = 0 ∧ (layF LL (ws.take i)).2.2 ≤ i
  | 0, _ => by simp [layF]
  | i + 1, h => by
    have ih := layF_le LL ws i (by omega)
    rw [List.take_add_one, List.getElem?_eq_getElem (by omega)]
    rw [show (some (ws[i]'(by omega))).toList = [ws[i]'(by omega)] from rfl, layF_snoc]
    have := stF_le LL (ws[i]'(by omega)).1.toNat (ws[i]'(by omega)).2.toNat (layF LL (ws.take i))
    exact ⟨this.1.trans ih.1, by omega⟩
/-- a machine and the document's own beside it -/
def GM (w0 wr : World) (base m B : Nat) (V : Value × Value × Value) (v : Nat) (vr vd : Value) (rs ds : List Sp) (p q : Hs) (n k : Nat) : Prop :=
  ∃ T X, X ≤ n ∧ Mac wr m B V T p.1 rs ds p.2.1 p.2.2 X ∧ (∀ j, Mine m B V T j → w0.heap.size ≤ j) ∧ (∀ j, Mine m B V (fun _ => none) j → j < base) ∧ w0.heap.size ≤ base ∧ base ≤ wr.heap.size ∧ Below w0.heap.size w0 wr ∧ ∃ vp ps X', X' ≤ k ∧ RM wr base v vr vd vp ps q.1 q.2.1 q.2.2 X'
theorem Mac.mx {w : World} {m B : Nat} {V : Value × Value × Value} {T : Nat → Option Nat} {M : Nat → Nat} {rs ds : List Sp} {L S X : Nat} (h : Mac w m B V T M rs ds L S X) : Mx w m B V T M rs ds (L + S + X) := ⟨L, S, X, by omega, by omega, by omega, h⟩
theorem GM.below {w0 wr W : World} {base m B : Nat} {V : Value × Value × Value} {v : Nat} {vr vd : Value} {rs ds : List Sp} {p q : Hs} {n k : Nat} (h : GM w0 wr base m B V v vr vd rs ds p q n k) (hb : Below wr.heap.size wr W) : GM w0 W base m B V v vr vd rs ds p q n k := by
  obtain ⟨T, X, hX, h1, h2, h3, h4, h5, h6, vp, ps, X', hX', h7⟩ := h
  exact ⟨T, X, hX, h1.below hb, h2, h3, h4, Nat.le_trans h5 hb.size, h6.trans (hb.mono h6.size), vp, ps, X', hX', h7.below hb⟩
theorem gm_store1 {w0 wr : World} {base m B : Nat} {V : Value × Value × Value} {v : Nat} {vr vd : Value} {rs ds : List Sp} {p q : Hs} {n k a val : Nat} (h : GM w0 wr base m B V v vr vd rs ds p q n k) (ha : a ≤ 18446744073709551615) (hval : val ≤ 18446744073709551615) (hn : n ≤ 4611686018427387904) (hS : p.2.2 ≤ 4611686018427387904) :
    Calls Tryz.prog 17 #[.pointer (some ⟨m, 0, none⟩), .int .u64 (a : Int), .int .i64 8, .int .u64 (val : Int)] wr fun e w' => ∃ x b, OffR (rs ++ ds) a 8 x b ∧ e = .returned (FaultV (if b then 30 else 0) x) ∧ Hid (GM w0 w' base m B V v vr vd rs ds (stF (rs ++ ds) a val p) q (n + 1) k) := by
  obtain ⟨T, X, hX, h1, h2, h3, h4, h5, h6, vp, ps, X', hX', h7⟩ := h
  refine (store_any (n := 8) h1 ha (.inr (.inr (.inr rfl))) hval (by omega) hS).mono ?_
  rintro e w' ⟨x, b, ho, rfl, hk, hb1, hb2⟩
  refine ⟨x, b, ho, rfl, ?_⟩
  have hz : ∀ j, (j = m ∨ Foot B T j) → w0.heap.size ≤ j := fun j e => h2 j (e.elim .inl (fun e => .inr (.inl e)))
  have hRM : RM w' base v vr vd vp ps q.1 q.2.1 q.2.2 X' := h7.keeps hk (fun j hv e => mine_notVB h1.mx h3 j (e.elim .inl (fun e => .inr (.inl e))) hv)
  have hB := below_keeps h6 hk hz
  rw [stF_off ho]
  cases b with
  | true => exact ⟨T, X + 1, by omega, hb1 rfl, h2, h3, h4, Nat.le_trans h5 hk.size, hB, vp, ps, X', hX', hRM⟩
  | false =>
    obtain ⟨T', hm', hg⟩ := hb2 rfl
    refine ⟨T', X, by omega, hm', fun j hj => ?_, h3, h4, Nat.le_trans h5 hk.size, hB, vp, ps, X', hX', hRM⟩
    rcases hj with rfl | (rfl | ⟨i, hi⟩) | hj
    · exact h2 _ (.inl rfl)
    · exact h2 _ (.inr (.inl (.inl rfl)))
    · rcases hg i j hi with hi | hi
      · exact h2 _ (.inr (.inl (.inr ⟨i, hi⟩)))
      · exact Nat.le_trans h6.size hi
    · exact h2 _ (.inr (.inr hj))
theorem gm_store2 {w0 wr : World} {base m B : Nat} {V : Value × Value × Value} {v : Nat} {vr vd : Value} {rs ds : List Sp} {p q : Hs} {n k a val : Nat} (h : GM w0 wr base m B V v vr vd rs ds p q n k) (hr : U64.SV w0 vr rs) (hd : U64.SV w0 vd ds) (hl : rs.length + ds.length ≤ 64) (ha : a ≤ 18446744073709551615) (hn : k ≤ 4611686018427387904) (hS : q.2.2 ≤ 4611686018427387904) :
    Calls Tryz.prog 11 #[.pointer (some ⟨v, 0, none⟩), .int .u64 (a : Int), .int .i64 8, .int .u64 (val : Int)] wr fun e w' => ∃ x b, OffR (rs ++ ds) a 8 x b ∧ e = .returned (FaultV (if b then 30 else 0) x) ∧ Hid (GM w0 w' base m B V v vr vd rs ds p (stF (rs ++ ds) a val q) n (k + 1)) := by
  obtain ⟨T, X, hX, h1, h2, h3, h4, h5, h6, vp, ps, X', hX', h7⟩ := h
  have hsn : Sane (rs ++ ds) := h1.mx.sane
  refine (rstore_at (n := 8) h7 (.inr (.inr (.inr rfl))) h5 (hr.below h6 (Nat.le_refl _)) (hd.below h6 (Nat.le_refl _)) hsn hl ha (by omega) hS).mono ?_
  rintro e w' ⟨x, b, ho, rfl, hk, hb1, hb2⟩
  refine ⟨x, b, ho, rfl, ?_⟩
  have hM : Mac w' m B V T p.1 rs ds p.2.1 p.2.2 X := h1.keeps hk (mine_notVB h1.mx h3)
  have hB := below_keeps h6 hk (fun j e => Nat.le_trans h4 e.1)
  rw [stF_off ho]
  cases b with
  | true => exact ⟨T, X, hX, hM, h2, h3, h4, Nat.le_trans h5 hk.size, hB, vp, ps, X' + 1, by omega, hb1 rfl⟩
  | false =>
    obtain ⟨vp', ps', hr'⟩ := hb2 rfl
    exact ⟨T, X, hX, hM, h2, h3, h4, Nat.le_trans h5 hk.size, hB, vp', ps', X', by omega, hr'⟩
end Go.Proofs.YtdkhhofgfbnmkaaGreat
/- The two machines of the law: grounds, and what lies in both then. Own work. -/
namespace Go.Proofs.YtdkhhofgfbnmkaaGreat
open Go.RowKit Go.Maps Go.Proofs.YtdkhhofgfbnmkaaGreat.Sp Wk
set_option maxRecDepth 100000 in
set_option maxHeartbeats 4000000 in
theorem grounds_at {w : World} {vr vd vw : Value} {rs ds ws : List Sp} (hr : U64.SV w vr rs) (hd : U64.SV w vd ds) (fr : Fits 18446744073709551615 rs) (fd : Fits 18446744073709551615 ds) (h0 : refW rs ds = 0) (hw : U64.SV w vw ws) (fw : Fits 18446744073709551615 ws) (hlw : ws.length ≤ 1152921504606846976) :
    Calls Tryz.prog 6 #[.agg #[vr, vd], vw] w fun e w' => ∃ m v base B V, e = .returned (.tuple #[.pointer (some ⟨m, 0, none⟩), .pointer (some ⟨v, 0, none⟩)]) ∧ Hid (GM w w' base m B V v vr vd rs ds (layF (rs ++ ds) ws) (layF (rs ++ ds) ws) ws.length ws.length) := by
  have HB0 : Hid (Below w.heap.size w (w.alloc (Obj.cells #[vr, vd] 24))) := (Below.refl _ _).alloc (Nat.le_refl _) _
  have HR0 : Hid (U64.SV w vr rs) := hr
  have HD0 : Hid (U64.SV w vd ds) := hd
  have HW0 : Hid (U64.SV w vw ws) := hw
  have HFw : Hid (Fits 18446744073709551615 ws) := fw
  have HSn := Lib.hid (refW_sane fr fd h0)
  have HX0 : Hid ((w.alloc (Obj.cells #[vr, vd] 24)).cell? ⟨w.heap.size, 0, none⟩ = some vr ∧ (w.alloc (Obj.cells #[vr, vd] 24)).cell? ⟨w.heap.size, 1, none⟩ = some vd) := U64.new2 rfl vr vd _
  have HRf : Hid (Calls Tryz.prog 7 #[.agg #[vr, vd]] (w.alloc (Obj.cells #[vr, vd] 24)) fun e w' => e = .returned (.int .i64 0) ∧ Below (w.alloc (Obj.cells #[vr, vd] 24)).heap.size (w.alloc (Obj.cells #[vr, vd] 24)) w') := by
    have h := refuses_any (hr.below HB0.out (Nat.le_refl _)) (hd.below HB0.out (Nat.le_refl _)) fr fd
    rw [h0] at h
    exact h
  have HNw : Hid (∀ W, Below w.heap.size w W → Calls Tryz.prog 16 #[.agg #[vr, vd]] W fun e w' => ∃ m B V, e = .returned (.tuple #[.pointer (some ⟨m, 0, none⟩), .int .i64 0]) ∧ Hid (Below W.heap.size W w') ∧ Hid (Mac w' m B V (fun _ => none) (fun _ => 0) rs ds 0 0 0 ∧ ∀ j, Mine m B V (fun _ => none) j → W.heap.size ≤ j)) := fun W hW => by
    refine (new_any (hr.below hW (Nat.le_refl _)) (hd.below hW (Nat.le_refl _)) fr fd).mono ?_
    rintro e w' ⟨pm, rfl, hb, hm⟩
    rcases hm.out with ⟨h1, _⟩ | ⟨_, m, B, V, rfl, h2, h3⟩
    · exact absurd h0 h1
    · exact ⟨m, B, V, by rw [h0], hb, h2, h3⟩
  obtain ⟨aw, cw, rfl, hc1, hc2, hc3, hc4, hc5⟩ := hw
  unfold maxLen at hc2
  have HC := Lib.hid hc5
  obtain ⟨N, hN⟩ : ∃ N, N = ws.length := ⟨_, rfl⟩
  have HN : Hid (N = ws.length) := hN
  rw [← hN] at hc1 hlw HW0
  rw [← hN]
  clear hr hd fr fd fw hc3 hc4 hc5 h0 hN
  obtain ⟨x0, x1⟩ := HX0.out
  go_enter Tryz.func6, Tryz.ntmps6
  go_wp2_with fail
  refine HRf.out.mono ?_
  rintro e w1 ⟨rfl, hb1⟩
  have HB1 : Hid (Below w.heap.size w w1) := HB0.out.trans (hb1.mono HB0.out.size)
  have y0 : w1.cell? ⟨w.heap.size, 0, none⟩ = some vr := (hb1.cell (p := ⟨w.heap.size, 0, none⟩) (by simp)).trans HX0.out.1
  have y1 : w1.cell? ⟨w.heap.size, 1, none⟩ = some vd := (hb1.cell (p := ⟨w.heap.size, 1, none⟩) (by simp)).trans HX0.out.2
  have hl1 : w.heap.size < w1.heap.size := by have := hb1.size; simp at this; omega
  have HC1 := Lib.hid (HNw.out w1 HB1.out)
  clear HRf HNw HX0 x0 x1 hb1
  go_wp2_with fail
  refine HC1.out.mono ?_
  rintro e w2 ⟨m, B, V, rfl, HB2, HM2⟩
  have z0 : w2.cell? ⟨w.heap.size, 0, none⟩ = some vr := (HB2.out.cell (p := ⟨w.heap.size, 0, none⟩) hl1).trans y0
  have z1 : w2.cell? ⟨w.heap.size, 1, none⟩ = some vd := (HB2.out.cell (p := ⟨w.heap.size, 1, none⟩) hl1).trans y1
  have HB2' : Hid (Below w.heap.size w w2) := HB1.out.trans (HB2.out.mono HB1.out.size)
  have hl2 : w1.heap.size ≤ w2.heap.size := HB2.out.size
  clear HC1 y0 y1
  go_wp2_with fail
  refine rnewW_any.mono ?_
  rintro e w3 ⟨v, rfl, HV3, HB3⟩
  have HG3 : Hid (GM w w3 w2.heap.size m B V v vr vd rs ds (fun _ => 0, 0, 0) (fun _ => 0, 0, 0) 0 0) := ⟨_, 0, Nat.le_refl _, HM2.out.1.below HB3.out.1, fun j hj => Nat.le_trans (Nat.le_of_lt hl1) (HM2.out.2 j hj), fun j hj => HM2.out.1.mx.mine_lt hj, by omega, HB3.out.1.size, HB2'.out.trans (HB3.out.1.mono HB2'.out.size), _, [], 0, Nat.le_refl _, HB3.out.2, HV3.out, World.ownsRow_nil w3 _ _ 2, by simp, Pn.nil, by simp, fun _ => Nat.zero_lt_succ _, fun _ _ => rfl⟩
  generalize w2.heap.size = base at HG3
  clear HM2 HB2 HB2' HV3 HB3 z0 z1 HB1 hl1 hl2 HB0
  go_wp2_with fail
  go_loopw [9] (fun iv wr => ∃ i : Nat, i ≤ N ∧ iv = .int .i64 (i : Int) ∧ Hid (GM w wr base m B V v vr vd rs ds (layF (rs ++ ds) (ws.take i)) (layF (rs ++ ds) (ws.take i)) i i)) (fun iv _ => N - (intOf iv).toNat)
  case atStart => exact ⟨0, Nat.zero_le _, rfl, HG3⟩
  case round =>
    obtain ⟨i, hi, rfl, HG⟩ := hrel
    by_cases hlt : i < N
    · have qi : (i : Int) < (N : Int) := by omega
      have hil : i < ws.length := by rw [← HN.out]; exact hlt
      have HBr : Hid (Below w.heap.size w wr) := by obtain ⟨_, _, _, _, _, _, _, _, h, _⟩ := HG.out; exact h
      obtain ⟨g, off, rfl, d0, d1⟩ := sv_at (HW0.out.below HBr.out (Nat.le_refl _)) i hil
      obtain ⟨p0, p1, p2, p3⟩ := HFw.out _ (List.getElem_mem hil)
      have HLe := Lib.hid (layF_le (rs ++ ds) ws i (by omega)).2
      have HSt : Hid (layF (rs ++ ds) (ws.take (i + 1)) = stF (rs ++ ds) (ws[i]'hil).1.toNat (ws[i]'hil).2.toNat (layF (rs ++ ds) (ws.take i))) := by
        show _ = _
        rw [List.take_add_one, List.getElem?_eq_getElem hil, show (some (ws[i]'hil)).toList = [ws[i]'hil] from rfl, layF_snoc]
      generalize layF (rs ++ ds) (ws.take i) = P at *
      generalize hxi : ws[i] = x at *
      obtain ⟨x1, x2⟩ := x
      obtain ⟨a, rfl⟩ : ∃ a : Nat, x1 = (a : Int) := ⟨x1.toNat, by simp only at p0; omega⟩
      obtain ⟨val, rfl⟩ : ∃ a : Nat, x2 = (a : Int) := ⟨x2.toNat, by simp only at p2; omega⟩
      simp only [Int.toNat_natCast] at p0 p1 p2 p3 d0 d1 HSt
      have hP : P.2.2 ≤ i := HLe.out
      have HS1 : Hid (∀ W, Below wr.heap.size wr W → Calls Tryz.prog 17 #[.pointer (some ⟨m, 0, none⟩), .int .u64 (a : Int), .int .i64 8, .int .u64 (val : Int)] W fun e w' => (∃ f, e = .returned f) ∧ Hid (GM w w' base m B V v vr vd rs ds (stF (rs ++ ds) a val P) P (i + 1) i)) := fun W hW => (gm_store1 (HG.out.below hW) (by omega) (by omega) (by omega) (by omega)).mono (fun e w' h => by obtain ⟨_, _, _, h1, h2⟩ := h; exact ⟨⟨_, h1⟩, h2⟩)
      have HS2 : Hid (∀ wq W, GM w wq base m B V v vr vd rs ds (stF (rs ++ ds) a val P) P (i + 1) i → Below wq.heap.size wq W → Calls Tryz.prog 11 #[.pointer (some ⟨v, 0, none⟩), .int .u64 (a : Int), .int .i64 8, .int .u64 (val : Int)] W fun e w' => (∃ f, e = .returned f) ∧ Hid (GM w w' base m B V v vr vd rs ds (layF (rs ++ ds) (ws.take (i + 1))) (layF (rs ++ ds) (ws.take (i + 1))) (i + 1) (i + 1))) := fun wq W hG hW => (gm_store2 (hG.below hW) HR0.out HD0.out (by have := HSn.out.2; omega) (by omega) (by omega) (by omega)).mono (fun e w' h => by obtain ⟨_, _, _, h1, h2⟩ := h; rw [HSt.out]; exact ⟨⟨_, h1⟩, h2⟩)
      have HXi : Hid (ws[i] = ((a : Int), (val : Int))) := hxi
      have HBd : Hid (Below wr.heap.size wr wr.drew) := (Below.refl _ _).drew
      clear hxi p0 p1 p2 p3
      go_wp2_with fail
      go_region_with (go_at_call 17; refine (HS1.out _ HBd.out).mono ?_; rintro e w4 ⟨⟨f, rfl⟩, HG4⟩)
      all_goals
        have HB4 : Hid (Below w.heap.size w w4) := by obtain ⟨_, _, _, _, _, _, _, _, h, _⟩ := HG4.out; exact h
        obtain ⟨g', off', hgo, e0, e1⟩ := sv_at (HW0.out.below HB4.out (Nat.le_refl _)) i hil
        cases hgo
        rw [HXi.out] at e0 e1
        simp only at e0 e1
        have HBd4 : Hid (Below w4.heap.size w4 w4.drew) := (Below.refl _ _).drew
        clear d0 d1 HS1 HBd
        go_wp2_with fail
        go_region_with (go_at_call 11; refine (HS2.out _ _ HG4.out HBd4.out).mono ?_; rintro e w5 ⟨⟨f', rfl⟩, HG5⟩)
        all_goals
          go_wp2_with fail
          go_roundw
          case rel => exact ⟨i + 1, by omega, by go_num, HG5⟩
          case measure => simp [intOf]; omega
    · obtain rfl : i = N := by omega
      go_wp2_with fail
      go_ret2
      have h := HG.out
      rw [List.take_of_length_le (by rw [← HN.out]; exact Nat.le_refl _)] at h
      exact ⟨m, v, base, B, V, rfl, h⟩
end Go.Proofs.YtdkhhofgfbnmkaaGreat
