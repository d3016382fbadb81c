/- SpanFits: the law. Own work. -/
import Derived.Test.YtogcpogoamoljaaSpFitR
import Derived.Test.YtogcpogoamoljaaSpFitLU8
import Derived.Test.YtogcpogoamoljaaSpManyU8
import Derived.Deep.DeepCutAuto
import Derived.Laws.StructEq
import Derived.Deep.QuietTactic
import Derived.Deep.CutBlock
import Derived.Test.YtogcpogoamoljaaSpTake
namespace Go.Proofs.Ytogcpogoamoljaa
open Go.RowKit Go.Shelf Go.Proofs.Ytogcpogoamoljaa.Sp Go.Proofs.Ytogcpogoamoljaa.U8
theorem own_row {w : World} {base c : Nat} {v : Value} {xs : List Sp} (h : Own w base v xs) (hc : c < base) (d : Array Value) : Own (w.setRow c d) base v xs := by
  refine ⟨h.1, ?_⟩
  rcases h.2 with h0 | ⟨g, cap, cur, e, hb, hg, r⟩
  · exact .inl h0
  · refine .inr ⟨g, cap, cur, e, hb, ?_, r⟩
    rw [← hg]
    simp only [World.setRow, Array.getElem?_modify]
    rw [if_neg (by omega)]
theorem bdn {B : Nat} {a w : World} (h : Below B a w) (n : Nat) : Below B a (w.drewN n) := h.trans ⟨rfl, rfl, rfl, Nat.le_refl _, fun _ _ => rfl⟩
/-- where the law stands: the set in its box, the points in their block -/
def St (w W : World) (v : Value) (xs : List Sp) (f : Nat → Bool) : Prop :=
  W.heap[w.heap.size]? = some (.cells #[v] 25 (0, 0)) ∧ PtsAt W (w.heap.size + 1) f ∧ Own W (w.heap.size + 2) v xs ∧ Canon 255 xs ∧ Below w.heap.size w W
theorem St.below {w W W' : World} {v : Value} {xs : List Sp} {f : Nat → Bool} (h : St w W v xs f) (hb : Below W.heap.size W W') : St w W' v xs f :=
  ⟨(hb.block _ (Array.getElem?_eq_some_iff.1 h.1).1).trans h.1, h.2.1.below hb h.2.1.lt, h.2.2.1.below hb (Nat.le_refl _), h.2.2.2.1, h.2.2.2.2.trans (hb.mono h.2.2.2.2.size)⟩
theorem St.cell {w W : World} {v : Value} {xs : List Sp} {f : Nat → Bool} (h : St w W v xs f) : W.cell? ⟨w.heap.size, 0, none⟩ = some v ∧ W.frozen? ⟨w.heap.size, 0, none⟩ = false := by
  refine ⟨by rw [cell_of_row _ _ 0 _ _ _ h.1]; rfl, ?_⟩
  have := h.1
  simp [World.frozen?, this]
theorem St.putSet {w W : World} {v v' : Value} {xs xs' : List Sp} {f : Nat → Bool} (h : St w W v xs f) (ho : Own W (w.heap.size + 2) v' xs') (hc : Canon 255 xs') : St w (W.setCell ⟨w.heap.size, 0, none⟩ v') v' xs' f := by
  refine ⟨?_, h.2.1.other (by omega), ho.low (by omega) _ _, hc, h.2.2.2.2.setCell (p := ⟨w.heap.size, 0, none⟩) (Nat.le_refl _) _⟩
  have := h.1
  simp [World.setCell, Array.getElem?_modify, this]
theorem St.putPts {w W : World} {v : Value} {xs : List Sp} {f : Nat → Bool} (h : St w W v xs f) (g : Nat → Bool) : St w (W.setRow (w.heap.size + 1) (ptsV g)) v xs g := by
  refine ⟨?_, h.2.1.setRow g, own_row h.2.2.1 (by omega) _, h.2.2.2.1, h.2.2.2.2.trans (below_setRow _ _ _ _ (by omega))⟩
  have := h.1
  simp [World.setRow, Array.getElem?_modify, this]
theorem St.start (w : World) : St w (((w.alloc (.cells #[.slice none 0 0] 25)).alloc (.cells (ptsV fun _ => false) 33))) (.slice none 0 0) [] (fun _ => false) := by
  refine ⟨?_, ?_, ⟨rfl, .inl ⟨rfl, rfl⟩⟩, canon_nil _, ((Below.refl _ _).alloc (Nat.le_refl _) _).alloc (by simp) _⟩
  · exact (Below.heap_alloc _ _ _ (by simp)).trans (heap_alloc_new w _)
  · have := PtsAt.new (w.alloc (.cells #[.slice none 0 0] 25)) (fun _ => false)
    simpa using this
/-- Fit's answer, and fit's -/
def Fits1 (xs : List Sp) (f : Nat → Bool) (s a r : Int) (b : Bool) : Prop :=
  0 ≤ r ∧ r ≤ 255 ∧ (∀ (W : World) (v : Value), SV W v xs → Calls Try.prog 16 #[.agg #[v], .int .u8 s, .int .u8 a] W fun e w' => e = .returned (.tuple #[.int .u8 r, .bool b]) ∧ Below W.heap.size W w') ∧
    ∀ W : World, Calls Try.prog 17 #[.agg (ptsV f), .int .i64 s, .int .i64 a] W fun e w' => e = .returned (.tuple #[.int .i64 r, .bool b]) ∧ Below W.heap.size W w'
theorem fits1 {xs : List Sp} {f : Nat → Bool} (hc : Canon 255 xs) (hx : ∀ q : Nat, q < 256 → (f q = true ↔ In q xs)) {s a : Int} (hs : 0 ≤ s ∧ s ≤ 255) (ha : 0 ≤ a ∧ a ≤ 255) : ∃ r b, Fits1 xs f s a r b := by
  have hx2 : ∀ q : Int, In q xs → 0 ≤ q ∧ q ≤ 255 := fun q h => hc.bounds h
  by_cases s0 : s = 0
  · subst s0
    exact ⟨0, false, by omega, by omega, fun W v _ => fit_zero, fun W => fit0_any (.inl rfl) W⟩
  · by_cases a0 : a = 0
    · subst a0
      refine ⟨0, false, by omega, by omega, fun W v hv => ?_, fun W => fit0_any (.inr rfl) W⟩
      have := fit_any hv hc (show 0 < s ∧ s ≤ 255 by omega) ha
      rwa [fitL_zero] at this
    · have hl := fitL_least (show 0 < s by omega) (show 0 < a by omega) hc
      obtain ⟨sn, rfl⟩ : ∃ sn : Nat, s = (sn : Int) := ⟨s.toNat, by omega⟩
      obtain ⟨an, rfl⟩ : ∃ an : Nat, a = (an : Int) := ⟨a.toNat, by omega⟩
      obtain ⟨⟨r, b⟩, hr⟩ : ∃ r, fitL (sn : Int) (an : Int) xs = r := ⟨_, rfl⟩
      rw [hr] at hl
      have hb : 0 ≤ r ∧ r ≤ 255 := by
        cases b with
        | true =>
          have h1 := hl.1 rfl
          exact hx2 r (h1.2.2.1 r (Int.le_refl _) (by simp only; omega))
        | false =>
          have h1 := (hl.2 rfl).1
          simp only at h1
          omega
      refine ⟨r, b, hb.1, hb.2, fun W v hv => ?_, fun W => ?_⟩
      · have := fit_any hv hc (show 0 < (sn : Int) ∧ (sn : Int) ≤ 255 by omega) ha
        rwa [hr] at this
      · refine (fit1_any (by omega) (by omega) (by omega) (by omega) hx hx2 W).mono ?_
        rintro e w' ⟨⟨r', rfl, hr'⟩, hb'⟩
        have := hr'.one hl
        subst this
        exact ⟨rfl, hb'⟩
/-- behind With: the new row, and where the law stood -/
def StW (w W : World) (v v2 : Value) (xs : List Sp) (f : Nat → Bool) (a b : Int) : Prop := ∃ xs2, Own W (w.heap.size + 2) v2 xs2 ∧ Canon 255 xs2 ∧ (∀ q, In q xs2 ↔ In q xs ∨ (a ≤ q ∧ q ≤ b)) ∧ St w W v xs f
theorem St.off {w W : World} {v : Value} {xs : List Sp} {f : Nat → Bool} (h : St w W v xs f) : w.heap.size + 2 ≤ W.heap.size := h.2.1.lt
abbrev WithS : Prop := ∀ {w : World} {vs : Value} {s : List Sp} {x : Sp}, SV w vs s → Canon 255 s → s.length ≤ 137438953472 → Fits 255 [x] → Calls Try.prog 5 #[.agg #[vs], .agg #[.int .u8 x.1, .int .u8 x.2]] w (SetPost w fun rs => ∃ ts, OfR 255 [x] ts ∧ Made 255 (fun a b => a || b) s ts rs)
abbrev PairS : Prop := ∀ {a b : Int} (_ha : 0 ≤ a ∧ a ≤ 18446744073709551615) (_hb : 0 ≤ b ∧ b ≤ 18446744073709551615) (w : World), Calls Try.prog 6 #[.int .u64 a, .int .u64 b] w fun e w' => e = .returned (.agg #[.int .u8 (a % (255 + 1)), .int .u8 (b % (255 + 1))]) ∧ ∃ X, w' = w.alloc X
theorem load_exec {o : Oper} {a : Act} {w : World} {x : Operand} (ho : o.op = .load 33 x) {b : Nat} {f : Nat → Bool} (hx : a.eval x = .pointer (some ⟨b, 0, none⟩)) (h : PtsAt w b f) : (execOp a.eval o).run Try.prog w = .ok (.value (.agg (ptsV f))) w := by
  unfold execOp
  simp only [ho, hx, Sem.run_bind, Sem.run_pure, Result.andThen_ok, h.load]
theorem store_exec {o : Oper} {a : Act} {w : World} {x y : Operand} (ho : o.op = .store 33 x y) {b : Nat} {f g : Nat → Bool} (hx : a.eval x = .pointer (some ⟨b, 0, none⟩)) (hy : a.eval y = .agg (ptsV g)) (h : PtsAt w b f) : (execOp a.eval o).run Try.prog w = .ok .skip (w.setRow b (ptsV g)) := by
  unfold execOp
  simp only [ho, hx, hy, Sem.run_bind, Sem.run_pure, Result.andThen_ok, h.store g]
theorem row_cell {w : World} {b c i : Nat} (hc : b ≠ c) (d : Array Value) : (w.setRow c d).cell? ⟨b, i, none⟩ = w.cell? ⟨b, i, none⟩ := by
  have e : (w.setRow c d).heap[b]? = w.heap[b]? := by
    simp only [World.setRow, Array.getElem?_modify]
    rw [if_neg (fun h => hc h.symm)]
  unfold World.cell?
  simp only [e]
/-- the points are the set's -/
def Pts (f : Nat → Bool) (xs : List Sp) : Prop := ∀ q : Nat, q < 256 → (f q = true ↔ In q xs)
theorem Pts.mark {f : Nat → Bool} {xs xs2 : List Sp} (h : Pts f xs) {a b : Nat} (h2 : ∀ q, In q xs2 ↔ In q xs ∨ ((a : Int) ≤ q ∧ q ≤ (b : Int))) : Pts (markF f a b true) xs2 := fun q hq => by
  simp only [markF]
  rw [h2, ← h q hq]
  by_cases e : a ≤ q ∧ q ≤ b
  · rw [if_pos e]
    exact ⟨fun _ => .inr (by omega), fun _ => rfl⟩
  · rw [if_neg e]
    exact ⟨.inl, fun k => k.resolve_right (by omega)⟩
theorem withE (HW : WithS) {w W W' : World} {v : Value} {xs : List Sp} {f : Nat → Bool} (h : St w W v xs f) (hb : Below W.heap.size W W') {a b : Int} (ha : 0 ≤ a ∧ a ≤ 255) (hb2 : 0 ≤ b ∧ b ≤ 255) :
    Calls Try.prog 5 #[.agg #[v], .agg #[.int .u8 a, .int .u8 b]] W' fun e w2 => ∃ ao n c, e = .returned (.agg #[.slice ao n c]) ∧ w2.cell? ⟨w.heap.size, 0, none⟩ = some v ∧ w2.frozen? ⟨w.heap.size, 0, none⟩ = false ∧ Hid (StW w w2 v (.slice ao n c) xs f a b) ∧ Hid (Below W.heap.size W w2) := by
  have h' := h.below hb
  have hlen := canon_length h'.2.2.2.1 (by omega)
  refine (HW (x := (a, b)) h'.2.2.1.sv h'.2.2.2.1 (by omega) (fun x hx => by obtain rfl := List.mem_singleton.1 hx; exact ⟨ha.1, ha.2, hb2.1, hb2.2⟩)).mono ?_
  rintro e w2 ⟨v2, rs, rfl, ho, ⟨ts, hts, hm⟩, hbw⟩
  have hs2 := h'.below hbw
  obtain ⟨ao, cap, rfl, _⟩ := ho.sv
  refine ⟨ao, _, cap, rfl, hs2.cell.1, hs2.cell.2, ⟨rs, ho.lower h'.off, hm.1, fun q => ?_, hs2⟩, hb.trans (hbw.mono hb.size)⟩
  rw [hm.or h'.2.2.2.1 hts.1 q, hts.2.1 q, in_one]
set_option maxHeartbeats 2000000 in
set_option maxRecDepth 3000 in
theorem spanFits_any {w : World} {vl : Value} {zs : List Int} {size al : Int} (hl : UL w vl zs) :
    Calls Try.prog 4 #[vl, .int .u64 size, .int .u64 al] w fun e w' => e = .returned (.bool true) ∧ Below w.heap.size w w' := by
  have HW : Hid WithS := with_any
  have HPr : Hid PairS := pair_any
  have HL : Hid (UL w vl zs) := hl
  obtain ⟨_, ao, cap, rfl, _, l1, _, _⟩ := hl
  unfold maxLen at l1
  have hz := pts_zero.1
  obtain ⟨n, hn⟩ : ∃ n, zs.length = n := ⟨_, rfl⟩
  have HN : Hid (zs.length = n) := hn
  rw [hn] at HL ⊢
  clear hn
  go_enter Try.func4, Try.ntmps4
  go_wp2_with (refine wpList_store_pts (b := w.heap.size + 1) (f := fun _ => false) (g := fun _ => false) (by rfl) (.tmp 8) (.tmp 18) (by rfl) (by rfl) (by rfl) (by rfl) (by exact (St.start w).2.1) ?_)
  obtain ⟨W1, hW1⟩ : ∃ W1, ((w.alloc (Obj.cells #[Value.slice none 0 0] 25)).alloc (Obj.cells (ptsV fun _ => false) 33)).setRow (w.heap.size + 1) (ptsV fun _ => false) = W1 := ⟨_, rfl⟩
  have H1 : Hid (St w W1 (.slice none 0 0) [] (fun _ => false)) := hW1 ▸ (St.start w).putPts _
  obtain ⟨k1, k2⟩ := H1.out.cell
  have HC1 : Hid (∀ X, Calls Try.prog 5 #[.agg #[.slice none 0 0], .agg #[.int .u8 10, .int .u8 20]] (W1.alloc X).drew fun e w2 => ∃ ao n c, e = .returned (.agg #[.slice ao n c]) ∧ w2.cell? ⟨w.heap.size, 0, none⟩ = some (.slice none 0 0) ∧ w2.frozen? ⟨w.heap.size, 0, none⟩ = false ∧ Hid (StW w w2 (.slice none 0 0) (.slice ao n c) [] (fun _ => false) 10 20) ∧ Hid (Below W1.heap.size W1 w2)) := fun X => withE HW.out H1.out ((Below.refl _ _).alloc (Nat.le_refl _) X).drew (by omega) (by omega)
  have HP1 : Hid (∀ W, Calls Try.prog 6 #[.int .u64 10, .int .u64 20] W fun e w' => e = .returned (.agg #[.int .u8 10, .int .u8 20]) ∧ ∃ X, w' = W.alloc X) := fun W => HPr.out (by omega) (by omega) W
  rw [hW1]
  clear hW1
  go_upto_region 3 with fail
  go_cut [19] (fun _ wx => ∃ v xs, Hid (St w wx v xs (fun _ => false)) ∧ Hid (∀ q, In q xs ↔ In q [] ∨ ((10 : Int) ≤ q ∧ q ≤ (20 : Int))))
  case first =>
    have kD : W1.drew.cell? ⟨w.heap.size, 0, none⟩ = some (.slice none 0 0) := k1
    have kA : ∀ X, (W1.alloc X).cell? ⟨w.heap.size, 0, none⟩ = some (.slice none 0 0) := fun X => cell_alloc' _ k1
    go_region_with (first | (go_at_call 6; refine (HP1.out _).mono ?_; rintro e w' ⟨rfl, X, rfl⟩) | (go_at_call 5; refine (HC1.out _).mono ?_; rintro e w2 ⟨a2, n2, c2, rfl, g1, g2, HS2, _⟩))
    all_goals
      go_wp2_with fail
      go_meet
      obtain ⟨xs2, o2, c2', i2, s2⟩ := HS2.out
      exact ⟨_, xs2, s2.putSet o2 c2', i2⟩
  case rest =>
    obtain ⟨v, xs, H2, HI2⟩ := hcut
    clear H1 k1 k2 HC1 HP1
    have HM : Hid (∀ W, Calls Try.prog 7 #[.agg (ptsV fun _ => false), .int .u64 10, .int .u64 20, .bool true] W fun e w' => e = .returned (.agg (ptsV (markF (fun _ => false) 10 20 true))) ∧ Below W.heap.size W w') := fun W => mark_any rfl rfl W
    go_upto_block 0 with (first | (refine wpList_load_pts (b := w.heap.size + 1) (f := fun _ => false) (by rfl) (.tmp 8) (by rfl) (by rfl) (by exact H2.out.2.1) ?_) | (go_at_call 7; refine (HM.out _).mono ?_; rintro e w4 ⟨rfl, hb4⟩; have H4 : Hid (St w w4 v xs (fun _ => false)) := H2.out.below hb4; clear hb4) | (refine wpList_store_pts (b := w.heap.size + 1) (f := fun _ => false) (g := markF (fun _ => false) 10 20 true) (by rfl) (.tmp 8) (.tmp 23) (by rfl) (by rfl) (by rfl) (by rfl) (by exact H4.out.2.1) ?_))
    obtain ⟨W5, hW5⟩ : ∃ W5, w4.setRow (w.heap.size + 1) (ptsV (markF (fun _ => false) 10 20 true)) = W5 := ⟨_, rfl⟩
    have H5 : Hid (St w W5 v xs (markF (fun _ => false) 10 20 true)) := hW5 ▸ H4.out.putPts _
    have HI5 : Hid (Pts (markF (fun _ => false) 10 20 true) xs) := Pts.mark (fun q _ => by simp [in_nil]) HI2.out
    have HZ5 : Hid (In 10 xs) := (HI2.out 10).2 (.inr (by omega))
    rw [hW5]
    clear hW5 HM H2 H4
    go_cut [9] (fun _ wx => ∃ v xs f, Hid (St w wx v xs f) ∧ Hid (Pts f xs) ∧ Hid (In 10 xs))
    case first =>
      go_wp2_with fail
      go_loopw [9] (fun i wr => ∃ j : Nat, j ≤ 41 ∧ i = .int .i64 (j : Int) ∧ ∃ v xs f, Hid (St w wr v xs f) ∧ Hid (Pts f xs) ∧ Hid (In 10 xs)) (fun i _ => 42 - (intOf i).toNat)
      case atStart => exact ⟨0, by omega, rfl, v, xs, _, H5.out, HI5.out, HZ5.out⟩
      case round =>
        obtain ⟨j, hj, rfl, v, xs, f, HS, HI, HZ⟩ := hrel
        obtain ⟨j1, hj1⟩ : ∃ j1, j1 = j + 1 := ⟨_, rfl⟩
        have e1 : (j : Int) + 1 = (j1 : Int) := by omega
        by_cases hin : j1 < n ∧ j < 40
        · have d1 : decide ((j1 : Int) < (n : Int)) = true := decide_eq_true (by omega)
          have d2 : decide ((j : Int) < 40) = true := decide_eq_true (by omega)
          obtain ⟨hr, ao', cap', e', _, _, _, h5⟩ := HL.out
          have hj1n : j1 < zs.length := by rw [HN.out]; exact hin.1
          have hjn : j < zs.length := by omega
          obtain ⟨g, off, e2, c0⟩ := h5 j hjn
          obtain ⟨g', off', e3, c1⟩ := h5 j1 hj1n
          simp only [Value.slice.injEq] at e'
          obtain ⟨q1, q2, q3⟩ := e'
          clear q2
          subst q1
          subst q3
          subst e2
          cases e3
          have hgw : g < w.heap.size := World.block_lt_of_cell? w _ c0
          have HCw : Hid (∀ W', Below w.heap.size w W' → W'.cell? ⟨g, off + j, none⟩ = some (.int .u64 zs[j]) ∧ W'.cell? ⟨g, off + j1, none⟩ = some (.int .u64 zs[j1])) := fun W' h => ⟨(h.cell (p := ⟨g, off + j, none⟩) hgw).trans c0, (h.cell (p := ⟨g, off + j1, none⟩) hgw).trans c1⟩
          replace c0 := (HS.out.2.2.2.2.cell (p := ⟨g, off + j, none⟩) hgw).trans c0
          replace c1 := (HS.out.2.2.2.2.cell (p := ⟨g, off + j1, none⟩) hgw).trans c1
          have r0 := hr _ (List.getElem_mem hjn)
          have r1 := hr _ (List.getElem_mem hj1n)
          obtain ⟨za, hza⟩ : ∃ za, za = zs[j] := ⟨_, rfl⟩
          obtain ⟨zb, hzb⟩ : ∃ zb, zb = zs[j1] := ⟨_, rfl⟩
          rw [← hza] at c0 r0 HCw
          rw [← hzb] at c1 r1 HCw
          have hJ1 : (j1 : Int) < (n : Int) := by omega
          have hJ0 : (j : Int) < (n : Int) := by omega
          have HC0 : Hid (wr.cell? ⟨g, off + j, none⟩ = some (.int .u64 za)) := c0
          have HC1 : Hid (wr.cell? ⟨g, off + j1, none⟩ = some (.int .u64 zb)) := c1
          have HJ : Hid (j1 = j + 1) := hj1
          clear hza hzb h5 hr hjn hj1n hj1 c0 c1
          have hw1 : IntKind.i64.wrap (j1 : Int) = (j1 : Int) := wrap_i64 (by omega) (by omega)
          go_upto_region 8 with fail
          go_cut [35] (fun _ wx => ∃ v2 xs2, Hid (St w wx v2 xs2 f) ∧ Hid (∀ q, In q xs2 ↔ In q xs ∨ (za % 256 ≤ q ∧ q ≤ zb % 256)))
          case first =>
            have HE6 : Hid (Enters Try.prog 6) := enters_of Try.func6 (by kernel_rfl) rfl
            have HE5 : Hid (Enters Try.prog 5) := enters_of Try.func5 (by kernel_rfl) rfl
            have HP : Hid (∀ W, Calls Try.prog 6 #[.int .u64 za, .int .u64 zb] W fun e w' => ∃ u, e = .returned u ∧ u = .agg #[.int .u8 (za % 256), .int .u8 (zb % 256)] ∧ ∃ X, w' = W.alloc X) := fun W => (HPr.out r0 r1 W).mono fun e w' h => ⟨_, h.1, rfl, h.2⟩
            have HWi : Hid (∀ W', Below wr.heap.size wr W' → Calls Try.prog 5 #[.agg #[v], .agg #[.int .u8 (za % 256), .int .u8 (zb % 256)]] W' fun e w2 => ∃ u, e = .returned u ∧ ∃ ao n c, u = .agg #[.slice ao n c] ∧ w2.cell? ⟨w.heap.size, 0, none⟩ = some v ∧ w2.frozen? ⟨w.heap.size, 0, none⟩ = false ∧ Hid (StW w w2 v (.slice ao n c) xs f (za % 256) (zb % 256)) ∧ Hid (Below wr.heap.size wr w2)) := fun W' h => (withE HW.out HS.out h (by omega) (by omega)).mono fun e w2 ⟨ao, n, c, h0, h1, h2, h3, h4⟩ => ⟨_, h0, ao, n, c, rfl, h1, h2, h3, h4⟩
            refine wp_region_held_drew (S := fun w' => w'.cell? ⟨g, off + j, none⟩ = some (.int .u64 za) ∧ w'.cell? ⟨g, off + j1, none⟩ = some (.int .u64 zb)) (by kernel_rfl) ⟨HC0.out, HC1.out⟩ (fun hHeld => ?_)
            simp only [List.size_toArray, List.length_cons, List.length_nil]
            refine takeH (i := 1) (d := 36) (v := .slice (some ⟨g, off, none⟩) n cap) rfl rfl (by kernel_rfl) (by kernel_rfl) (by kernel_rfl) (fun _ _ _ h => h) (Or.inl ⟨by kernel_rfl, by intro w hSw; (try dsimp only at hSw); obtain ⟨hSa, hSb⟩ := hSw; go_simp⟩) (by assumption) ?_
            refine takeH (i := 2) (d := 37) (v := .int .i64 (j : Int)) rfl rfl (by kernel_rfl) (by kernel_rfl) (by kernel_rfl) (fun _ _ _ h => h) (Or.inl ⟨by kernel_rfl, by intro w hSw; (try dsimp only at hSw); obtain ⟨hSa, hSb⟩ := hSw; go_simp⟩) (by assumption) ?_
            refine takeH (i := 3) (d := 38) (v := .pointer (some ⟨g, off + j, none⟩)) rfl rfl (by kernel_rfl) (by kernel_rfl) (by kernel_rfl) (fun _ _ _ h => h) (Or.inl ⟨by kernel_rfl, by intro w hSw; (try dsimp only at hSw); obtain ⟨hSa, hSb⟩ := hSw; go_simp⟩) (by assumption) ?_
            refine takeH (i := 4) (d := 39) (v := .int .u64 za) rfl rfl (by kernel_rfl) (by kernel_rfl) (by kernel_rfl) (fun _ _ _ h => h) (Or.inl ⟨by kernel_rfl, by intro w hSw; (try dsimp only at hSw); obtain ⟨hSa, hSb⟩ := hSw; go_simp⟩) (by assumption) ?_
            refine takeH (i := 5) (d := 40) (v := .slice (some ⟨g, off, none⟩) n cap) rfl rfl (by kernel_rfl) (by kernel_rfl) (by kernel_rfl) (fun _ _ _ h => h) (Or.inl ⟨by kernel_rfl, by intro w hSw; (try dsimp only at hSw); obtain ⟨hSa, hSb⟩ := hSw; go_simp⟩) (by assumption) ?_
            refine takeH (i := 6) (d := 41) (v := .int .i64 (j : Int)) rfl rfl (by kernel_rfl) (by kernel_rfl) (by kernel_rfl) (fun _ _ _ h => h) (Or.inl ⟨by kernel_rfl, by intro w hSw; (try dsimp only at hSw); obtain ⟨hSa, hSb⟩ := hSw; go_simp⟩) (by assumption) ?_
            refine takeH (i := 7) (d := 42) (v := .int .i64 (j1 : Int)) rfl rfl (by kernel_rfl) (by kernel_rfl) (by kernel_rfl) (fun _ _ _ h => h) (Or.inl ⟨by kernel_rfl, by intro w hSw; (try dsimp only at hSw); obtain ⟨hSa, hSb⟩ := hSw; go_simp⟩) (by assumption) ?_
            refine takeH (i := 8) (d := 43) (v := .pointer (some ⟨g, off + j1, none⟩)) rfl rfl (by kernel_rfl) (by kernel_rfl) (by kernel_rfl) (fun _ _ _ h => h) (Or.inl ⟨by kernel_rfl, by intro w hSw; (try dsimp only at hSw); obtain ⟨hSa, hSb⟩ := hSw; go_simp⟩) (by assumption) ?_
            refine takeH (i := 9) (d := 44) (v := .int .u64 zb) rfl rfl (by kernel_rfl) (by kernel_rfl) (by kernel_rfl) (fun _ _ _ h => h) (Or.inl ⟨by kernel_rfl, by intro w hSw; (try dsimp only at hSw); obtain ⟨hSa, hSb⟩ := hSw; go_simp⟩) (by assumption) ?_
            have HB0 : Hid (Below wr.heap.size wr wr.drew) := (Below.refl _ _).drew
            have HSC : Hid (∀ W', Below wr.heap.size wr W' → (W'.cell? ⟨g, off + j, none⟩ = some (.int .u64 za) ∧ W'.cell? ⟨g, off + j1, none⟩ = some (.int .u64 zb)) ∧ W'.cell? ⟨w.heap.size, 0, none⟩ = some v) := fun W' h => ⟨⟨by rw [h.cell (p := ⟨g, off + j, none⟩) (World.block_lt_of_cell? wr _ HC0.out)]; exact HC0.out, by rw [h.cell (p := ⟨g, off + j1, none⟩) (World.block_lt_of_cell? wr _ HC1.out)]; exact HC1.out⟩, (HS.out.below h).cell.1⟩
            refine wpAnyH_ready (rs := [0, 10]) (by kernel_rfl) (by simp) ?_
            refine readyVal (i := 0) (d := 35) rfl rfl (by kernel_rfl) (.agg #[v]) (by have hcl := (HSC.out _ HB0.out).2; go_simp) (by assumption) ?_ ?_
            · refine wpAnyH_ready (rs := [10]) (by kernel_rfl) (by simp) ?_
              refine readyCall (i := 10) (d := 45) rfl rfl (by kernel_rfl) 6 #[.tmp 39, .tmp 44] #[30, 30] rfl HE6.out #[.int .u64 za, .int .u64 zb] (by simp [Act.eval, Act.put]) (HP.out _) (fun u w' ⟨_, X, e⟩ => e ▸ (HSC.out _ (HB0.out.alloc (Nat.le_refl _) X)).1) ?_ AllReadyH.nil
              rintro u w6 ⟨rfl, X, rfl⟩ hHeld6
              refine wpAnyH_ready (rs := [11]) (by kernel_rfl) (by simp) ?_
              refine readyCall (i := 11) (d := 46) rfl rfl (by kernel_rfl) 5 #[.tmp 35, .tmp 45] #[25, 28] rfl HE5.out #[.agg #[v], .agg #[.int .u8 (za % 256), .int .u8 (zb % 256)]] (by simp [Act.eval, Act.put]) (HWi.out _ (HB0.out.alloc (Nat.le_refl _) X)) (fun u w' ⟨_, _, _, _, _, _, _, h⟩ => (HSC.out _ h.out).1) ?_ AllReadyH.nil
              rintro u w7 ⟨a7, n7, c7, rfl, g1, g2, HS7, HB7⟩ hHeld7
              refine wpAnyH_ready (rs := [12]) (by kernel_rfl) (by simp) ?_
              have hne : g ≠ w.heap.size := by omega
              refine readySkip (i := 12) (w' := w7.setCell ⟨w.heap.size, 0, none⟩ (.slice a7 n7 c7)) rfl rfl (by kernel_rfl) (by go_simp) ⟨(set_other hne).trans hHeld7.1, (set_other hne).trans hHeld7.2⟩ ?_ AllReadyH.nil
              refine wpAnyH_done (by kernel_rfl) ?_ _
              go_wp2_with fail
              simp only [Act.put, List.setIfInBounds_toArray, List.set_cons_succ, List.set_cons_zero]
              go_meet
              obtain ⟨xs2, o2, c2', i2, s2⟩ := HS7.out
              exact ⟨_, xs2, s2.putSet o2 c2', i2⟩
            · refine readyCall (i := 10) (d := 45) rfl rfl (by kernel_rfl) 6 #[.tmp 39, .tmp 44] #[30, 30] rfl HE6.out #[.int .u64 za, .int .u64 zb] (by simp [Act.eval, Act.put]) (HP.out _) (fun u w' ⟨_, X, e⟩ => e ▸ (HSC.out _ (HB0.out.alloc (Nat.le_refl _) X)).1) ?_ AllReadyH.nil
              rintro u w6 ⟨rfl, X, rfl⟩ hHeld6
              refine wpAnyH_ready (rs := [0]) (by kernel_rfl) (by simp) ?_
              refine readyVal (i := 0) (d := 35) rfl rfl (by kernel_rfl) (.agg #[v]) (by have hcl : (wr.alloc X).cell? ⟨w.heap.size, 0, none⟩ = some v := (HSC.out _ ((Below.refl _ _).alloc (Nat.le_refl _) X)).2; go_simp) (by assumption) ?_ AllReadyH.nil
              refine wpAnyH_ready (rs := [11]) (by kernel_rfl) (by simp) ?_
              refine readyCall (i := 11) (d := 46) rfl rfl (by kernel_rfl) 5 #[.tmp 35, .tmp 45] #[25, 28] rfl HE5.out #[.agg #[v], .agg #[.int .u8 (za % 256), .int .u8 (zb % 256)]] (by simp [Act.eval, Act.put]) (HWi.out _ (HB0.out.alloc (Nat.le_refl _) X)) (fun u w' ⟨_, _, _, _, _, _, _, h⟩ => (HSC.out _ h.out).1) ?_ AllReadyH.nil
              rintro u w7 ⟨a7, n7, c7, rfl, g1, g2, HS7, HB7⟩ hHeld7
              refine wpAnyH_ready (rs := [12]) (by kernel_rfl) (by simp) ?_
              have hne : g ≠ w.heap.size := by omega
              refine readySkip (i := 12) (w' := w7.setCell ⟨w.heap.size, 0, none⟩ (.slice a7 n7 c7)) rfl rfl (by kernel_rfl) (by go_simp) ⟨(set_other hne).trans hHeld7.1, (set_other hne).trans hHeld7.2⟩ ?_ AllReadyH.nil
              refine wpAnyH_done (by kernel_rfl) ?_ _
              go_wp2_with fail
              simp only [Act.put, List.setIfInBounds_toArray, List.set_cons_succ, List.set_cons_zero]
              go_meet
              obtain ⟨xs2, o2, c2', i2, s2⟩ := HS7.out
              exact ⟨_, xs2, s2.putSet o2 c2', i2⟩
          case rest =>
            obtain ⟨v8, xs8, H8, HI8⟩ := hcut
            obtain ⟨na, hna⟩ : ∃ na : Nat, za % 256 = (na : Int) := ⟨(za % 256).toNat, by omega⟩
            obtain ⟨nb, hnb⟩ : ∃ nb : Nat, zb % 256 = (nb : Int) := ⟨(zb % 256).toNat, by omega⟩
            have HIn : Hid (∀ q, In q xs8 ↔ In q xs ∨ ((na : Int) ≤ q ∧ q ≤ (nb : Int))) := show ∀ q, In q xs8 ↔ In q xs ∨ ((na : Int) ≤ q ∧ q ≤ (nb : Int)) by rw [← hna, ← hnb]; exact HI8.out
            have HPt : Hid (Pts (markF f na nb true) xs8) := HI.out.mark HIn.out
            have HZ8 : Hid (In 10 xs8) := (HIn.out 10).2 (.inl HZ.out)
            have HMk : Hid (∀ W, Calls Try.prog 7 #[.agg (ptsV f), .int .u64 za, .int .u64 zb, .bool true] W fun e w' => ∃ u, e = .returned u ∧ u = .agg (ptsV (markF f na nb true)) ∧ Below W.heap.size W w') := fun W => (mark_any hna hnb W).mono fun e w' h => ⟨_, h.1, rfl, h.2⟩
            have HC80 : Hid (wc.cell? ⟨g, off + j, none⟩ = some (.int .u64 za) ∧ wc.cell? ⟨g, off + j1, none⟩ = some (.int .u64 zb)) := HCw.out _ H8.out.2.2.2.2
            clear hna hnb HIn HI8 HS HI HZ
            have HE7 : Hid (Enters Try.prog 7) := enters_of Try.func7 (by kernel_rfl) rfl
            go_upto_region 9 with fail
            refine wp_region_held_drew (S := fun w' => w'.cell? ⟨g, off + j, none⟩ = some (.int .u64 za) ∧ w'.cell? ⟨g, off + j1, none⟩ = some (.int .u64 zb)) (by kernel_rfl) HC80.out (fun hHeld => ?_)
            simp only [List.size_toArray, List.length_cons, List.length_nil]
            refine takeH (i := 1) (d := 48) (v := .slice (some ⟨g, off, none⟩) n cap) rfl rfl (by kernel_rfl) (by kernel_rfl) (by kernel_rfl) (fun _ _ _ h => h) (Or.inl ⟨by kernel_rfl, by intro w hSw; (try dsimp only at hSw); obtain ⟨hSa, hSb⟩ := hSw; go_simp⟩) (by assumption) ?_
            refine takeH (i := 2) (d := 49) (v := .int .i64 (j : Int)) rfl rfl (by kernel_rfl) (by kernel_rfl) (by kernel_rfl) (fun _ _ _ h => h) (Or.inl ⟨by kernel_rfl, by intro w hSw; (try dsimp only at hSw); obtain ⟨hSa, hSb⟩ := hSw; go_simp⟩) (by assumption) ?_
            refine takeH (i := 3) (d := 50) (v := .pointer (some ⟨g, off + j, none⟩)) rfl rfl (by kernel_rfl) (by kernel_rfl) (by kernel_rfl) (fun _ _ _ h => h) (Or.inl ⟨by kernel_rfl, by intro w hSw; (try dsimp only at hSw); obtain ⟨hSa, hSb⟩ := hSw; go_simp⟩) (by assumption) ?_
            refine takeH (i := 4) (d := 51) (v := .int .u64 za) rfl rfl (by kernel_rfl) (by kernel_rfl) (by kernel_rfl) (fun _ _ _ h => h) (Or.inl ⟨by kernel_rfl, by intro w hSw; (try dsimp only at hSw); obtain ⟨hSa, hSb⟩ := hSw; go_simp⟩) (by assumption) ?_
            refine takeH (i := 5) (d := 52) (v := .slice (some ⟨g, off, none⟩) n cap) rfl rfl (by kernel_rfl) (by kernel_rfl) (by kernel_rfl) (fun _ _ _ h => h) (Or.inl ⟨by kernel_rfl, by intro w hSw; (try dsimp only at hSw); obtain ⟨hSa, hSb⟩ := hSw; go_simp⟩) (by assumption) ?_
            refine takeH (i := 6) (d := 53) (v := .int .i64 (j : Int)) rfl rfl (by kernel_rfl) (by kernel_rfl) (by kernel_rfl) (fun _ _ _ h => h) (Or.inl ⟨by kernel_rfl, by intro w hSw; (try dsimp only at hSw); obtain ⟨hSa, hSb⟩ := hSw; go_simp⟩) (by assumption) ?_
            refine takeH (i := 7) (d := 54) (v := .int .i64 (j1 : Int)) rfl rfl (by kernel_rfl) (by kernel_rfl) (by kernel_rfl) (fun _ _ _ h => h) (Or.inl ⟨by kernel_rfl, by intro w hSw; (try dsimp only at hSw); obtain ⟨hSa, hSb⟩ := hSw; go_simp⟩) (by assumption) ?_
            refine takeH (i := 8) (d := 55) (v := .pointer (some ⟨g, off + j1, none⟩)) rfl rfl (by kernel_rfl) (by kernel_rfl) (by kernel_rfl) (fun _ _ _ h => h) (Or.inl ⟨by kernel_rfl, by intro w hSw; (try dsimp only at hSw); obtain ⟨hSa, hSb⟩ := hSw; go_simp⟩) (by assumption) ?_
            refine takeH (i := 9) (d := 56) (v := .int .u64 zb) rfl rfl (by kernel_rfl) (by kernel_rfl) (by kernel_rfl) (fun _ _ _ h => h) (Or.inl ⟨by kernel_rfl, by intro w hSw; (try dsimp only at hSw); obtain ⟨hSa, hSb⟩ := hSw; go_simp⟩) (by assumption) ?_
            have H9 : Hid (St w wc.drew v8 xs8 f) := H8.out.below (Below.refl _ _).drew
            refine wpAnyH_ready (rs := [0]) (by kernel_rfl) (by simp) ?_
            refine readyVal (i := 0) (d := 47) rfl rfl (by kernel_rfl) (.agg (ptsV f)) (load_exec (x := .tmp 8) rfl (by simp [Act.eval, Act.put]) H9.out.2.1) (by assumption) ?_ AllReadyH.nil
            refine wpAnyH_ready (rs := [10]) (by kernel_rfl) (by simp) ?_
            refine readyCall (i := 10) (d := 57) rfl rfl (by kernel_rfl) 7 #[.tmp 47, .tmp 51, .tmp 56, .const (.bool true)] #[33, 30, 30, 4] rfl HE7.out #[.agg (ptsV f), .int .u64 za, .int .u64 zb, .bool true] (by simp [Act.eval, Act.put]) (HMk.out _) (fun u w' ⟨_, h⟩ => HCw.out _ (H9.out.below h).2.2.2.2) ?_ AllReadyH.nil
            rintro u w9 ⟨rfl, hb9⟩ hHeld9
            have H10 : Hid (St w w9 v8 xs8 f) := H9.out.below hb9
            refine wpAnyH_ready (rs := [11]) (by kernel_rfl) (by simp) ?_
            have hne : g ≠ w.heap.size + 1 := by omega
            refine readySkip (i := 11) (w' := w9.setRow (w.heap.size + 1) (ptsV (markF f na nb true))) rfl rfl (by kernel_rfl) (store_exec (x := .tmp 8) (y := .tmp 57) rfl (by simp [Act.eval, Act.put]) (by simp [Act.eval, Act.put]) H10.out.2.1) ⟨(row_cell hne _).trans hHeld9.1, (row_cell hne _).trans hHeld9.2⟩ ?_ AllReadyH.nil
            have H11 : Hid (St w (w9.setRow (w.heap.size + 1) (ptsV (markF f na nb true))) v8 xs8 (markF f na nb true)) := H10.out.putPts _
            refine wpAnyH_done (by kernel_rfl) ?_ _
            simp only [Act.put, List.setIfInBounds_toArray, List.set_cons_succ, List.set_cons_zero]
            go_wp2_with fail
            go_roundw
            case rel => exact ⟨j + 2, by omega, by go_num, v8, xs8, _, H11.out, HPt.out, HZ8.out⟩
            case measure => simp [intOf]; omega
          
        · by_cases h1 : j1 < n
          · have d1 : decide ((j1 : Int) < (n : Int)) = true := decide_eq_true (by omega)
            have d2 : decide ((j : Int) < 40) = false := decide_eq_false (by omega)
            clear hin hj1
            go_wp2_with fail
            go_meet
            exact ⟨v, xs, f, HS.out, HI.out, HZ.out⟩
          · have d1 : decide ((j1 : Int) < (n : Int)) = false := decide_eq_false (by omega)
            clear hin hj1
            go_wp2_with fail
            go_meet
            exact ⟨v, xs, f, HS.out, HI.out, HZ.out⟩
    case rest =>
      obtain ⟨v, xs, f, H6, HI6, HZ6⟩ := hcut
      clear H5 HI5 HZ5 HI2
      obtain ⟨s8, hs8⟩ : ∃ s8, size % 256 = s8 := ⟨_, rfl⟩
      obtain ⟨a8, ha8⟩ : ∃ a8, al % 256 = a8 := ⟨_, rfl⟩
      have w1 : IntKind.u8.wrap size = s8 := hs8
      have w2 : IntKind.u8.wrap al = a8 := ha8
      have b1 : 0 ≤ s8 ∧ s8 ≤ 255 := by omega
      have b2 : 0 ≤ a8 ∧ a8 ≤ 255 := by omega
      obtain ⟨r, b, hr0, hr1, hF, hG⟩ := fits1 H6.out.2.2.2.1 HI6.out b1 b2
      have HF : Hid (∀ (W : World) (v : Value), SV W v xs → Calls Try.prog 16 #[.agg #[v], .int .u8 s8, .int .u8 a8] W fun e w' => e = .returned (.tuple #[.int .u8 r, .bool b]) ∧ Below W.heap.size W w') := hF
      have HG : Hid (∀ W : World, Calls Try.prog 17 #[.agg (ptsV f), .int .i64 s8, .int .i64 a8] W fun e w' => e = .returned (.tuple #[.int .i64 r, .bool b]) ∧ Below W.heap.size W w') := hG
      clear hF hG hs8 ha8
      obtain ⟨k1, k2⟩ := H6.out.cell
      go_wp2_with fail
      refine (HF.out _ _ H6.out.2.2.1.sv).mono ?_
      rintro e w7 ⟨rfl, hb7⟩
      have H7 : Hid (St w w7 v xs f) := H6.out.below hb7
      clear hb7 k1 k2
      go_wp2_with (first | (refine wpList_load_pts (b := w.heap.size + 1) (f := f) (by rfl) (.tmp 8) (by rfl) (by rfl) (by exact H7.out.2.1) ?_) | (go_at_call 17; refine (HG.out _).mono ?_; rintro e w8 ⟨rfl, hb8⟩; have H8 : Hid (St w w8 v xs f) := H7.out.below hb8; clear hb8; obtain ⟨k1, k2⟩ := H8.out.cell))
      obtain ⟨x0, r0, rfl⟩ : ∃ x0 r0, xs = x0 :: r0 := by
        cases xs with
        | nil => exact absurd HZ6.out (in_nil _)
        | cons x r => exact ⟨x, r, rfl⟩
      obtain ⟨y, hy⟩ : ∃ y, y = biggest x0 r0 := ⟨_, rfl⟩
      have HY : Hid (y = biggest x0 r0) := hy
      have hyb := biggest_in H8.out.2.2.2.1 r0.length
      rw [List.take_length, ← hy] at hyb
      have HLg : Hid (∀ W : World, SV W v (x0 :: r0) → Calls Try.prog 18 #[.agg #[v]] W fun e w' => e = .returned (.tuple #[.agg #[.int .u8 y.1, .int .u8 y.2], .bool true]) ∧ Below W.heap.size W w') := fun W hW => by rw [hy]; exact largest_some hW H8.out.2.2.2.1
      clear hy
      refine (HLg.out _ H8.out.2.2.1.sv).mono ?_
      rintro e w9 ⟨rfl, hb9⟩
      have H9 : Hid (St w w9 v (x0 :: r0) f) := H8.out.below hb9
      clear hb9 k1 k2 HLg
      have k1 : ∀ X, (w9.alloc X).cell? ⟨w.heap.size, 0, none⟩ = some v := fun X => cell_alloc' _ H9.out.cell.1
      go_wp2_with fail
      clear k1
      obtain ⟨W10, hW10⟩ : ∃ W10, w9.alloc (Obj.cells #[Value.int IntKind.u8 y.1, Value.int IntKind.u8 y.2] 28) = W10 := ⟨_, rfl⟩
      have H10 : Hid (St w W10 v (x0 :: r0) f) := hW10 ▸ H9.out.below ((Below.refl _ _).alloc (Nat.le_refl _) _)
      have HX10 : Hid (Box2 W10 w9.heap.size y) := hW10 ▸ Box2.new w9 y
      rw [hW10]
      clear hW10
      refine (spans_any H10.out.2.2.1.sv (by have := canon_length H10.out.2.2.2.1 (by omega); omega)).mono ?_
      rintro e w11 ⟨v11, rfl, ho11, hb11⟩
      have H11 : Hid (Below w.heap.size w w11) := (H10.out.below hb11).2.2.2.2
      have HX11 : Hid (Box2 w11 w9.heap.size y) := HX10.out.below hb11 HX10.out.lt
      have HC11 : Hid (Canon 255 (x0 :: r0)) := H10.out.2.2.2.1
      have HV11 : Hid (SV w11 v11 (x0 :: r0)) := ho11.sv
      clear hb11 ho11
      obtain ⟨xs, hxs⟩ : ∃ xs, x0 :: r0 = xs := ⟨_, rfl⟩
      have HB : Hid (∀ i (hi : i < xs.length), (xs[i]).2 - (xs[i]).1 ≤ y.2 - y.1 ∧ (y ∉ xs.take (i + 1) → (xs[i]).2 - (xs[i]).1 < y.2 - y.1)) := by
        subst hxs
        intro i hi
        rw [HY.out]
        exact biggest_all hi
      have HM : Hid (y ∈ xs) := by
        show y ∈ xs
        rw [← hxs, HY.out]
        exact biggest_mem _ _
      rw [hxs] at HC11 HV11
      clear hxs HY H6 HI6 HZ6 HF H7 H8 H9 H10 HX10
      obtain ⟨ao11, cap11, rfl, h1, h2, _⟩ := HV11.out
      obtain ⟨N, hN⟩ : ∃ N, xs.length = N := ⟨_, rfl⟩
      have HNx : Hid (xs.length = N) := hN
      rw [hN] at HV11 h1 ⊢
      have hN2 : N ≤ 256 := by have := canon_length HC11.out (by omega); omega
      clear hN
      go_wp2_with fail
      go_loopw [16, 17] (fun fd i wr => ∃ k : Nat, k ≤ N ∧ i = .int .i64 (k : Int) ∧ fd = .bool (decide (y ∈ xs.take k)) ∧ Hid (Below w11.heap.size w11 wr)) (fun _ i _ => N - (intOf i).toNat)
      case atStart => exact ⟨0, Nat.zero_le _, rfl, by simp, Below.refl _ _⟩
      case round =>
        obtain ⟨k, hk, rfl, rfl, HBr⟩ := hrel
        by_cases hlt : k < N
        · have hkx : k < xs.length := by rw [HNx.out]; exact hlt
          obtain ⟨ao', cap', e', _, _, _, _, h5⟩ := HV11.out.below HBr.out (Nat.le_refl _)
          obtain ⟨g, off, e2, c0, c1⟩ := h5 k hkx
          simp only [Value.slice.injEq] at e'
          obtain ⟨q1, q2, q3⟩ := e'
          clear q2 h5
          subst q1
          subst q3
          subst e2
          obtain ⟨hle, hlt2⟩ := HB.out k hkx
          have hxb := HC11.out.1 _ (List.getElem_mem hkx)
          have htk : xs.take (k + 1) = xs.take k ++ [xs[k]] := List.take_succ_eq_append_getElem hkx
          obtain ⟨m0, m1, _, _⟩ := (HX11.out.below HBr.out HX11.out.lt).cells
          obtain ⟨x, hx⟩ : ∃ x, x = xs[k] := ⟨_, rfl⟩
          rw [← hx] at c0 c1 hle hlt2 hxb htk
          obtain ⟨y1, y2⟩ := y
          obtain ⟨x1, x2⟩ := x
          simp only at c0 c1 hle hlt2 hxb hyb m0 m1
          have ki : (k : Int) < (N : Int) := by omega
          have HT : Hid (xs.take (k + 1) = xs.take k ++ [(x1, x2)]) := htk
          have HL2 : Hid ((y1, y2) ∉ xs.take (k + 1) → x2 - x1 < y2 - y1) := hlt2
          clear hx htk hkx hlt2
          have wx : IntKind.u8.wrap (x2 - x1) = x2 - x1 := show (x2 - x1) % 256 = x2 - x1 by omega
          have wy : IntKind.u8.wrap (y2 - y1) = y2 - y1 := show (y2 - y1) % 256 = y2 - y1 by omega
          obtain ⟨dx, hdx⟩ : ∃ dx, x2 - x1 = dx := ⟨_, rfl⟩
          obtain ⟨dy, hdy⟩ : ∃ dy, y2 - y1 = dy := ⟨_, rfl⟩
          rw [hdx, hdy] at HL2 hle
          rw [hdx] at wx
          rw [hdy] at wy
          have hgt : decide (dy < dx) = false := decide_eq_false (by omega)
          by_cases hf : (y1, y2) ∈ xs.take k
          · have hf' : decide ((y1, y2) ∈ xs.take k) = true := decide_eq_true hf
            have HF' : Hid ((y1, y2) ∈ xs.take (k + 1)) := show _ ∈ _ by rw [HT.out]; exact List.mem_append_left _ hf
            rw [hf']
            clear hf hf'
            go_wp2_with fail
            go_quiet (fail)
            go_wp2_with fail
            go_quiet (fail)
            go_wp2_with fail
            go_quiet (fail)
            go_wp2_with fail
            go_roundw
            case rel => exact ⟨k + 1, by omega, by go_num, by rw [decide_eq_true HF'.out], bdn HBr.out _⟩
            case measure => simp [intOf]; omega
          · have hf' : decide ((y1, y2) ∈ xs.take k) = false := decide_eq_false hf
            rw [hf']
            by_cases hxy : x1 = y1 ∧ x2 = y2
            · obtain ⟨rfl, rfl⟩ := hxy
              have HF' : Hid ((x1, x2) ∈ xs.take (k + 1)) := show _ ∈ _ by rw [HT.out]; exact List.mem_append_right _ List.mem_cons_self
              clear hf hf'
              go_wp2_with fail
              go_quiet (fail)
              go_wp2_with fail
              go_quiet (fail)
              go_wp2_with fail
              go_quiet (fail)
              go_wp2_with fail
              go_roundw
              case rel => exact ⟨k + 1, by omega, by go_num, by rw [decide_eq_true HF'.out], bdn HBr.out _⟩
              case measure => simp [intOf]; omega
            · have HF' : Hid ((y1, y2) ∉ xs.take (k + 1)) := show _ ∉ _ by
                rw [HT.out]
                intro hm
                rcases List.mem_append.1 hm with hm | hm
                · exact hf hm
                · have := List.mem_singleton.1 hm
                  simp only [Prod.mk.injEq] at this
                  exact hxy ⟨this.1.symm, this.2.symm⟩
              have hd2 : (dx == dy) = false := by have := HL2.out HF'.out; simp; omega
              by_cases e1 : x1 = y1
              · have q2 : (x2 == y2) = false := by simp; exact fun h => hxy ⟨e1, h⟩
                subst e1
                clear hf hf' hxy
                go_wp2_with fail
                go_quiet (fail)
                go_wp2_with fail
                go_quiet (fail)
                go_wp2_with fail
                go_quiet (fail)
                go_wp2_with fail
                go_roundw
                case rel => exact ⟨k + 1, by omega, by go_num, by rw [decide_eq_false HF'.out], bdn HBr.out _⟩
                case measure => simp [intOf]; omega
              · have q1 : (x1 == y1) = false := by simpa using e1
                clear hf hf' hxy e1
                go_wp2_with fail
                go_quiet (fail)
                go_wp2_with fail
                go_quiet (fail)
                go_wp2_with fail
                go_quiet (fail)
                go_wp2_with fail
                go_roundw
                case rel => exact ⟨k + 1, by omega, by go_num, by rw [decide_eq_false HF'.out], bdn HBr.out _⟩
                case measure => simp [intOf]; omega
        · obtain rfl : k = N := by omega
          have hf' : decide (y ∈ xs.take k) = true := decide_eq_true (by rw [← HNx.out, List.take_length]; exact HM.out)
          rw [hf']
          go_wp2_with fail
          go_ret
          exact ⟨rfl, H11.out.trans (HBr.out.mono H11.out.size)⟩
end Go.Proofs.Ytogcpogoamoljaa
