import Derived.Test.YtddgoncbdlhhhaaGreatQ14
import Derived.Test.YtddgoncbdlhhhaaGreatQ29
import Derived.Deep.RegionHeld3
/- askCount, Read. Own work. -/
namespace Go.Proofs.YtddgoncbdlhhhaaGreat
open Go.RowKit Go.Maps Go.Proofs.YtddgoncbdlhhhaaGreat.Sp
set_option maxRecDepth 100000 in
set_option maxHeartbeats 4000000 in
theorem askCount_any {w : World} {m B : Nat} {V : Value × Value × Value} {T : Nat → Option Nat} {M : Nat → Nat} {rs ds : List Sp} {L S X a n : Nat} (h : Mac w m B V T M rs ds L S X) (ha : a ≤ 18446744073709551615) (hn : n ≤ 9223372036854775807) (hX : X ≤ 4611686018427387904) :
    Calls Tryz.prog 60 #[.pointer (some ⟨m, 0, none⟩), .int .u64 (a : Int), .int .i64 (n : Int)] w (AskPost w m B V T M rs ds L S X a n) := by
  have HA : Hid (∀ W, Below w.heap.size w W → Calls Tryz.prog 83 #[.pointer (some ⟨m, 0, none⟩), .int .u64 (a : Int), .int .i64 (n : Int)] W (AskPost W m B V T M rs ds L S X a n)) := fun W hW => ask_any (h.below hW) ha hn hX
  have HM : Hid (Mac w m B V T M rs ds L S X) := h
  have hml := h.lt
  clear h
  go_enter Tryz.func60, Tryz.ntmps60
  go_wp2_with fail
  refine (HA.out _ ((Below.refl _ _).alloc (Nat.le_refl _) _)).mono ?_
  rintro e w1 ⟨x, b, ho, rfl, hm1, hk1⟩
  have HOff : Hid (OffR (rs ++ ds) a n x b) := ho
  have HX1 : Hid (BoxF w1 w.heap.size 0 0) := (BoxF.new w 0 0).keeps hk1 (by omega)
  have HM1 : Hid (Mac w1 m B V T M rs ds L S (up b X)) := hm1
  have HK1 : Hid (Keeps (fun j => j = m) w w1) := (Keeps.alloc (S := fun j => j = m) w _).trans hk1 (fun _ _ e => e)
  obtain ⟨x0, x1, f0, f1⟩ := HX1.out.cells
  clear ho hm1 hk1 HA
  unfold FaultV
  obtain ⟨why, hwhy⟩ : ∃ why, why = (if b = true then (30 : Int) else 0) := ⟨_, rfl⟩
  have HWhy : Hid (why = (if b = true then (30 : Int) else 0)) := hwhy
  rw [← hwhy]
  clear hwhy
  go_wp2_with fail
  obtain ⟨d0, d1, _⟩ := (HX1.out.set why x).cells
  refine bodyPost_ret (v := .agg #[.int .i64 why, .int .u64 x]) (by simp [results, Tryz.results60, go_sem, d0, d1]) rfl ?_
  have hk2 := Keeps.two w1 w.heap.size (.int .i64 why) (.int .u64 x)
  exact ⟨x, b, HOff.out, by rw [HWhy.out]; rfl, HM1.out.keeps hk2 (fun j hj e => by have := HM.out.mine_lt hj; omega), HK1.out.trans hk2 (fun i hi e => absurd e (by omega))⟩
/-- Read of bytes that are on the bus -/
def ReadPost (w : World) (m B : Nat) (V : Value × Value × Value) (T : Nat → Option Nat) (M : Nat → Nat) (rs ds : List Sp) (L S X a n : Nat) (e : Ending) (w' : World) : Prop :=
  ∃ g, e = .returned (.tuple #[.slice (some ⟨g, 0, none⟩) n n, FaultV 0 0]) ∧ RowT w' 5 g (bytesAt M a n) ∧ w.heap.size ≤ g ∧ Mac w' m B V T M rs ds L S X ∧ Keeps (fun j => j = m) w w'
theorem rdTo_all (M : Nat → Nat) (a n : Nat) : rdTo M a n n = bytesAt M a n := by simp [rdTo]
set_option maxRecDepth 100000 in
set_option maxHeartbeats 4000000 in
theorem read_ok {w : World} {m B : Nat} {V : Value × Value × Value} {T : Nat → Option Nat} {M : Nat → Nat} {rs ds : List Sp} {L S X a n : Nat} (h : Mac w m B V T M rs ds L S X) (ha : a ≤ 18446744073709551615) (hn : 0 < n ∧ n ≤ 1099511627776) (hX : X ≤ 4611686018427387904) (hon : ∀ i, i < n → On (rs ++ ds) ((a : Int) + (i : Nat))) :
    Calls Tryz.prog 33 #[.pointer (some ⟨m, 0, none⟩), .int .u64 (a : Int), .int .i64 (n : Int)] w (ReadPost w m B V T M rs ds L S X a n) := by
  have HA : Hid (∀ W, Below w.heap.size w W → Calls Tryz.prog 60 #[.pointer (some ⟨m, 0, none⟩), .int .u64 (a : Int), .int .i64 (n : Int)] W fun e w' => e = .returned (.agg #[.int .i64 0, .int .u64 0]) ∧ Hid (OffR (rs ++ ds) a n 0 false) ∧ Hid (Mac w' m B V T M rs ds L S X) ∧ Hid (Keeps (fun j => j = m) W w')) := fun W hW => by
    refine (askCount_any (h.below hW) ha (by omega) hX).mono ?_
    rintro e w' ⟨x, b, ho, rfl, h1, h2⟩
    have hb : b = false := by
      cases b with
      | false => rfl
      | true =>
        obtain ⟨i, h3, _, _, h4, _⟩ := ho.1 rfl
        exact absurd (hon i h3) h4
    subst hb
    have hx := (ho.2 rfl).1
    subst hx
    exact ⟨rfl, ho, h1, h2⟩
  have HM : Hid (Mac w m B V T M rs ds L S X) := h
  have hml := h.lt
  obtain ⟨i, hi, hz0, hz1, hz2⟩ := info_parts info_byte
  clear h hon
  go_enter Tryz.func33, Tryz.ntmps33
  go_wp2_with fail
  refine (HA.out _ ((Below.refl _ _).alloc (Nat.le_refl _) _)).mono ?_
  rintro e w1 ⟨rfl, HOff, HM1, HK0⟩
  have HX1 : Hid (BoxF w1 w.heap.size 0 0) := (BoxF.new w 0 0).keeps HK0.out (by omega)
  have HK1 : Hid (Keeps (fun j => j = m) w w1) := (Keeps.alloc (S := fun j => j = m) w _).trans HK0.out (fun _ _ e => e)
  obtain ⟨x0, x1, f0, f1⟩ := HX1.out.cells
  clear HA HK0
  have HRange : Hid (a + n ≤ 4294967296) := off_low HOff.out HM.out hn.1
  have hlt1 := HX1.out.lt
  go_wp2_with (at_make; refine wpList_make_full _ rfl _ _ 27 rfl (w1.heap.size + 1) 5 i (.int .u8 0) 1 Tryz.underlying27 hi hz0 hz1 _ _ _ _ n rfl rfl (by omega) (by omega) (by rw [hz2]; omega) (by simp only [maxLen]; omega) (by simp) ?_)
  intro w2 hown hgrow
  have HR2 : Hid (RowT w2 5 (w1.heap.size + 1) (List.replicate n 0)) := row_made hown
  have HB2 : Hid (Below w1.heap.size w1 w2) := ((Below.refl _ _).alloc (Nat.le_refl _) _).grown hgrow (by simp) (by simp)
  have HM2 : Hid (Mac w2 m B V T M rs ds L S X) := HM1.out.below HB2.out
  have HX2 : Hid (BoxF w2 w.heap.size 0 0) := HX1.out.below HB2.out
  clear hown hgrow x0 x1 f0 f1 hi hz0 hz1 hz2
  obtain ⟨_, _, _, c6, _⟩ := HM2.out.cells
  have HRd : Hid (Calls Tryz.prog 47 #[.map (some B), .int .u64 (a : Int), .slice (some ⟨w1.heap.size + 1, 0, none⟩) n n] w2 fun e w' => e = .returned (.tuple #[]) ∧ RowT w' 5 (w1.heap.size + 1) (rdTo M a n n) ∧ Keeps (fun j => j = w1.heap.size + 1) w2 w') :=
    read_any HM2.out.held HRange.out HR2.out (fun hf => by have := HM1.out.held.foot_lt hf; omega) (Nat.le_refl _) (Nat.le_refl _) (by unfold maxLen; omega)
  go_wp2_with (first | (go_at_call 47; refine HRd.out.mono ?_; rintro e w3 ⟨rfl, hr3, hk3⟩; have HR3 : Hid (RowT w3 5 (w1.heap.size + 1) (rdTo M a n n)) := hr3; have HK3 : Hid (Keeps (fun j => j = w1.heap.size + 1) w2 w3) := hk3; have HX3 : Hid (BoxF w3 w.heap.size 0 0) := HX2.out.keeps HK3.out (by omega); obtain ⟨x0, x1, f0, f1⟩ := HX3.out.cells; clear hr3 hk3 HRd c6))
  obtain ⟨d0, d1, _⟩ := (HX3.out.set 0 0).cells
  refine bodyPost_ret (v := .tuple #[.slice (some ⟨w1.heap.size + 1, 0, none⟩) n n, .agg #[.int .i64 0, .int .u64 0]]) (by simp [results, Tryz.results33, go_sem, d0, d1]) rfl ?_
  have hk2 := Keeps.two w3 w.heap.size (.int .i64 0) (.int .u64 0)
  have hr := HR3.out
  rw [rdTo_all] at hr
  refine ⟨_, rfl, (hk2.block (w1.heap.size + 1) (Array.getElem?_eq_some_iff.1 hr).1 (by show ¬ _; omega)).trans hr, by omega, (HM2.out.keeps HK3.out (fun j hj e => ?_)).keeps hk2 (fun j hj e => ?_), ((HK1.out.trans (Keeps.of_below (S := fun _ => False) HB2.out) (fun _ _ h => h.elim)).trans HK3.out (fun i hi e => absurd e ?_)).trans hk2 (fun i hi e => absurd e (by omega))⟩
  · have := HM.out.mine_lt hj; omega
  · have := HM.out.mine_lt hj; omega
  · omega
end Go.Proofs.YtddgoncbdlhhhaaGreat
/- Fill, Write of a machine. Own work. -/
namespace Go.Proofs.YtddgoncbdlhhhaaGreat
open Go.RowKit Go.Maps Go.Proofs.YtddgoncbdlhhhaaGreat.Sp
set_option maxRecDepth 100000 in
set_option maxHeartbeats 4000000 in
theorem fill_zero {w : World} {B : Nat} {T : Nat → Option Nat} {M : Nat → Nat} {a z : Nat} (h : Held w B T M) :
    Calls Tryz.prog 61 #[.map (some B), .int .u64 (a : Int), .int .i64 0, .int .u8 (z : Int)] w (LaidPost w B T M) := by
  have HH : Hid (Held w B T M) := h
  have HR : Hid (∀ W b, Calls Tryz.prog 90 #[.slice (some ⟨b, 0, none⟩) 1 1, .int .i64 0] W fun e w' => ∃ v, e = .returned v ∧ Below W.heap.size W w') := fun W b => repeat_zero
  clear h
  go_enter Tryz.func61, Tryz.ntmps61
  go_wp2_with fail
  refine (HR.out _ _).mono ?_
  rintro e w1 ⟨v, rfl, hb1⟩
  have HB1 : Hid (Below w.heap.size w w1) := ((Below.refl _ _).alloc (Nat.le_refl _) _).trans (hb1.mono (by simp))
  clear hb1
  go_wp2_with fail
  go_loopw [1, 2] (fun _ y wr => y = .int .i64 0 ∧ wr = w1) (fun _ _ _ => 0)
  case atStart => exact ⟨rfl, rfl⟩
  case round =>
    obtain ⟨rfl, hw⟩ := hrel
    have hw := hw.symm
    subst hw
    go_wp2_with fail
    go_end0
    exact ⟨rfl, T, HH.out.below HB1.out, Keeps.of_below HB1.out, Grows.refl _ _⟩
set_option maxRecDepth 100000 in
set_option maxHeartbeats 4000000 in
theorem lay_none {w : World} {B : Nat} {T : Nat → Option Nat} {M : Nat → Nat} {a cap : Nat} {ao : Option Addr} (h : Held w B T M) :
    Calls Tryz.prog 52 #[.map (some B), .int .u64 (a : Int), .slice ao 0 cap] w (LaidPost w B T M) := by
  have HH : Hid (Held w B T M) := h
  clear h
  go_enter Tryz.func52, Tryz.ntmps52
  go_wp2_with fail
  go_loopw [1, 2] (fun _ y wr => y = .slice ao 0 cap ∧ wr = w) (fun _ _ _ => 0)
  case atStart => exact ⟨rfl, rfl⟩
  case round =>
    obtain ⟨rfl, hw⟩ := hrel
    have hw := hw.symm
    subst hw
    go_wp2_with fail
    go_end0
    exact ⟨rfl, T, HH.out, Keeps.refl _ _, Grows.refl _ _⟩
theorem sl_own_lt {w : World} {b o n cap : Nat} {zs : List Nat} (h : Sl w (.slice (some ⟨b, o, none⟩) n cap) zs) (hz : 0 < zs.length) : b < w.heap.size := by
  obtain ⟨ao, cap', e, _, _, _, _, h5⟩ := h
  obtain ⟨b', o', e2, hc⟩ := h5 0 hz
  injection e with e1
  rw [e2] at e1
  injection e1 with e1
  injection e1 with e1
  rw [e1]
  exact World.block_lt_of_cell? w _ hc
theorem sl_keeps {Z : Nat → Prop} {w w' : World} {ao : Option Addr} {n cap : Nat} {zs : List Nat} (hn : n = zs.length) (h : Sl w (.slice ao n cap) zs) (hk : Keeps Z w w') (hz : 0 < n → ∀ j, (Value.slice ao n cap).ownBlock = some j → ¬ Z j) : Sl w' (.slice ao n cap) zs := by
  by_cases h0 : 0 < n
  · exact h.keeps hk (hz h0)
  · obtain rfl : zs = [] := List.eq_nil_of_length_eq_zero (by omega)
    obtain ⟨ao', cap', e, h1, h2, h3, h4, h5⟩ := h
    exact ⟨ao', cap', e, h1, h2, h3, h4, fun i hi => by simp at hi⟩
theorem fill_all {w : World} {B : Nat} {T : Nat → Option Nat} {M : Nat → Nat} {a z N : Nat} (h : Held w B T M) (ha : 0 < N → a + N ≤ 4294967296) (hz : z < 256) :
    Calls Tryz.prog 61 #[.map (some B), .int .u64 (a : Int), .int .i64 (N : Int), .int .u8 (z : Int)] w (LaidPost w B T (putAt M a (List.replicate N z))) := by
  by_cases hN : 0 < N
  · exact fill_any h (ha hN) hz hN
  · obtain rfl : N = 0 := by omega
    rw [List.replicate_zero, putAt_nil]
    exact fill_zero h
theorem lay_all {w : World} {B : Nat} {T : Nat → Option Nat} {M : Nat → Nat} {a n cap : Nat} {ao : Option Addr} {zs : List Nat} (h : Held w B T M) (hn : n = zs.length) (ha : 0 < n → a + n ≤ 4294967296) (hs : Sl w (.slice ao n cap) zs) (hb : 0 < n → ∀ j, (Value.slice ao n cap).ownBlock = some j → ¬ Foot B T j) :
    Calls Tryz.prog 52 #[.map (some B), .int .u64 (a : Int), .slice ao n cap] w (LaidPost w B T (putAt M a zs)) := by
  subst hn
  by_cases hN : 0 < zs.length
  · obtain ⟨b, o, cap', e, _, _, _⟩ := hs.pos hN
    cases e
    exact lay_some h (ha hN) hs (hb hN b rfl) (sl_own_lt hs hN)
  · obtain rfl : zs = [] := List.eq_nil_of_length_eq_zero (by omega)
    rw [putAt_nil]
    exact lay_none h
def FillPost (w : World) (m B : Nat) (V : Value × Value × Value) (T : Nat → Option Nat) (M M' : Nat → Nat) (rs ds : List Sp) (L S X a n : Nat) (e : Ending) (w' : World) : Prop :=
  ∃ x b, OffR (rs ++ ds) a n x b ∧ e = .returned (FaultV (if b then 30 else 0) x) ∧ Keeps (fun j => j = m ∨ Foot B T j) w w' ∧ (b = true → Mac w' m B V T M rs ds L S (X + 1)) ∧ (b = false → ∃ T', Mac w' m B V T' M' rs ds L S X ∧ Grows w.heap.size T T')
set_option maxRecDepth 100000 in
set_option maxHeartbeats 4000000 in
theorem fillM_any {w : World} {m B : Nat} {V : Value × Value × Value} {T : Nat → Option Nat} {M : Nat → Nat} {rs ds : List Sp} {L S X a n z : Nat} (h : Mac w m B V T M rs ds L S X) (ha : a ≤ 18446744073709551615) (hn : n ≤ 9223372036854775807) (hz : z < 256) (hX : X ≤ 4611686018427387904) :
    Calls Tryz.prog 27 #[.pointer (some ⟨m, 0, none⟩), .int .u64 (a : Int), .int .i64 (n : Int), .int .u8 (z : Int)] w (FillPost w m B V T M (putAt M a (List.replicate n z)) rs ds L S X a n) := by
  have HA : Hid (∀ W, Below w.heap.size w W → Calls Tryz.prog 60 #[.pointer (some ⟨m, 0, none⟩), .int .u64 (a : Int), .int .i64 (n : Int)] W (AskPost W m B V T M rs ds L S X a n)) := fun W hW => askCount_any (h.below hW) ha hn hX
  have HM : Hid (Mac w m B V T M rs ds L S X) := h
  have hml := h.lt
  clear h
  go_enter Tryz.func27, Tryz.ntmps27
  go_wp2_with fail
  refine (HA.out _ ((Below.refl _ _).alloc (Nat.le_refl _) _)).mono ?_
  rintro e w1 ⟨x, b, ho, rfl, hm1, hk1⟩
  have HOff : Hid (OffR (rs ++ ds) a n x b) := ho
  have HX1 : Hid (BoxF w1 w.heap.size 0 0) := (BoxF.new w 0 0).keeps hk1 (by omega)
  have HM1 : Hid (Mac w1 m B V T M rs ds L S (up b X)) := hm1
  have HK1 : Hid (Keeps (fun j => j = m) w w1) := (Keeps.alloc (S := fun j => j = m) w _).trans hk1 (fun _ _ e => e)
  have hne : w.heap.size ≠ w1.heap.size := Nat.ne_of_lt HX1.out.lt
  have hlt1 := HX1.out.lt
  clear ho hm1 hk1 HA
  unfold FaultV
  cases b with
  | true =>
    simp only [if_true]
    obtain ⟨x0, x1, f0, f1⟩ := HX1.out.cells
    have y0 := fun X => (HX1.out.below ((Below.refl _ _).alloc (Nat.le_refl _) X)).cells.1
    have y1 := fun X => (HX1.out.below ((Below.refl _ _).alloc (Nat.le_refl _) X)).cells.2.1
    have y2 := fun X => (HX1.out.below ((Below.refl _ _).alloc (Nat.le_refl _) X)).cells.2.2.1
    have y3 := fun X => (HX1.out.below ((Below.refl _ _).alloc (Nat.le_refl _) X)).cells.2.2.2
    go_wp2_with fail
    have hbx := (HX1.out.set 30 x).below ((Below.refl _ _).alloc (Nat.le_refl _) (Obj.cells #[.int .i64 30, .int .u64 x] 71))
    obtain ⟨d0, d1, _⟩ := hbx.cells
    refine bodyPost_ret (v := .agg #[.int .i64 30, .int .u64 x]) (by simp [results, Tryz.results27, go_sem, d0, d1]) rfl ?_
    have hk2 : Keeps (fun j => j = w.heap.size) w1 (((w1.setCell ⟨w.heap.size, 0, none⟩ (.int .i64 30)).setCell ⟨w.heap.size, 1, none⟩ (.int .u64 x)).alloc (Obj.cells #[.int .i64 30, .int .u64 x] 71)) := (Keeps.two w1 w.heap.size (.int .i64 30) (.int .u64 x)).trans (Keeps.alloc (S := fun _ => False) _ _) (fun _ _ h => h.elim)
    exact ⟨x, true, HOff.out, rfl, (HK1.out.mono (fun _ _ e => .inl e)).trans hk2 (fun i hi e => absurd e (by omega)), fun _ => HM1.out.keeps hk2 (fun j hj e => by have := HM.out.mine_lt hj; omega), fun h => by cases h⟩
  | false =>
    simp only [Bool.false_eq_true, if_false]
    have HLow : Hid (0 < n → a + n ≤ 4294967296) := fun h0 => off_low HOff.out HM.out h0
    have HXz : Hid (x = 0) := (HOff.out.2 rfl).1
    obtain ⟨x0, x1, f0, f1⟩ := HX1.out.cells
    have c6 := fun X => U64.cell_alloc' X HM1.out.cells.2.2.2.1
    have HB2 : Hid (Below w1.heap.size w1 (w1.alloc (Obj.cells #[.int .i64 0, .int .u64 x] 71))) := (Below.refl _ _).alloc (Nat.le_refl _) _
    have HM2 : Hid (Mac (w1.alloc (Obj.cells #[.int .i64 0, .int .u64 x] 71)) m B V T M rs ds L S X) := HM1.out.below HB2.out
    have HFl : Hid (Calls Tryz.prog 61 #[.map (some B), .int .u64 (a : Int), .int .i64 (n : Int), .int .u8 (z : Int)] (w1.alloc (Obj.cells #[.int .i64 0, .int .u64 x] 71)) (LaidPost (w1.alloc (Obj.cells #[.int .i64 0, .int .u64 x] 71)) B T (putAt M a (List.replicate n z)))) := fill_all HM2.out.held HLow.out hz
    go_wp2_with fail
    refine HFl.out.mono ?_
    rintro e w4 ⟨rfl, T', hH4, hK4, hG4⟩
    have HM4 : Hid (Mac w4 m B V T' (putAt M a (List.replicate n z)) rs ds L S X) := HM2.out.laid hH4 hK4 hG4
    have hXf : ¬ Foot B T w.heap.size := fun hf => by have := HM.out.held.foot_lt hf; omega
    have HX4 : Hid (BoxF w4 w.heap.size 0 0) := (HX1.out.below HB2.out).keeps hK4 hXf
    have HK4 : Hid (Keeps (fun j => j = m ∨ Foot B T j) w w4) := ((HK1.out.mono (fun _ _ e => .inl e)).trans (Keeps.of_below (S := fun _ => False) HB2.out) (fun _ _ h => h.elim)).trans hK4 (fun _ _ h => .inr h)
    have HG4 : Hid (Grows w.heap.size T T') := fun k g' e => (hG4 k g' e).imp id (fun h => by have := HB2.out.size; omega)
    have HNb : Hid (¬ Foot B T' w.heap.size) := fun hf => hXf (hG4.foot hf (by have := HB2.out.size; omega))
    obtain ⟨x0, x1, f0, f1⟩ := HX4.out.cells
    clear hH4 hK4 hG4 c6 HFl
    go_wp2_with fail
    obtain ⟨d0, d1, _⟩ := (HX4.out.set 0 0).cells
    refine bodyPost_ret (v := .agg #[.int .i64 0, .int .u64 0]) (by simp [results, Tryz.results27, go_sem, d0, d1]) rfl ?_
    have hk6 := Keeps.two w4 w.heap.size (.int .i64 0) (.int .u64 0)
    refine ⟨x, false, HOff.out, by rw [HXz.out]; rfl, HK4.out.trans hk6 (fun i hi e => absurd e (by omega)), fun h => (by cases h), fun _ => ⟨T', HM4.out.keeps hk6 (fun j hj e => ?_), HG4.out⟩⟩
    subst e
    rcases hj with h | h | ⟨u, hu, e⟩
    · omega
    · exact HNb.out h
    · have := HM.out.mine_lt (.inr (.inr ⟨u, hu, e⟩)); omega
set_option maxRecDepth 100000 in
set_option maxHeartbeats 4000000 in
theorem writeM_any {w : World} {m B : Nat} {V : Value × Value × Value} {T : Nat → Option Nat} {M : Nat → Nat} {rs ds : List Sp} {L S X a n cap : Nat} {ao : Option Addr} {zs : List Nat} (h : Mac w m B V T M rs ds L S X) (ha : a ≤ 18446744073709551615) (hn : n ≤ 9223372036854775807) (hnz : n = zs.length) (hs : Sl w (.slice ao n cap) zs) (hf : 0 < n → ∀ j, (Value.slice ao n cap).ownBlock = some j → ¬ Mine m B V T j) (hX : X ≤ 4611686018427387904) :
    Calls Tryz.prog 57 #[.pointer (some ⟨m, 0, none⟩), .int .u64 (a : Int), .slice ao n cap] w (FillPost w m B V T M (putAt M a zs) rs ds L S X a n) := by
  have HA : Hid (∀ W, Below w.heap.size w W → Calls Tryz.prog 83 #[.pointer (some ⟨m, 0, none⟩), .int .u64 (a : Int), .int .i64 (n : Int)] W (AskPost W m B V T M rs ds L S X a n)) := fun W hW => ask_any (h.below hW) ha hn hX
  have HM : Hid (Mac w m B V T M rs ds L S X) := h
  have hml := h.lt
  have HNz : Hid (n = zs.length) := hnz
  have HS0 : Hid (Sl w (.slice ao n cap) zs) := hs
  have HNf : Hid (0 < n → ∀ j, (Value.slice ao n cap).ownBlock = some j → ¬ Mine m B V T j) := hf
  clear h hnz hs hf
  go_enter Tryz.func57, Tryz.ntmps57
  go_wp2_with fail
  refine (HA.out _ ((Below.refl _ _).alloc (Nat.le_refl _) _)).mono ?_
  rintro e w1 ⟨x, b, ho, rfl, hm1, hk1⟩
  have HOff : Hid (OffR (rs ++ ds) a n x b) := ho
  have HX1 : Hid (BoxF w1 w.heap.size 0 0) := (BoxF.new w 0 0).keeps hk1 (by omega)
  have HM1 : Hid (Mac w1 m B V T M rs ds L S (up b X)) := hm1
  have HK1 : Hid (Keeps (fun j => j = m) w w1) := (Keeps.alloc (S := fun j => j = m) w _).trans hk1 (fun _ _ e => e)
  have HSl : Hid (Sl w1 (.slice ao n cap) zs) := sl_keeps HNz.out HS0.out HK1.out (fun h0 j e h => HNf.out h0 j e (.inl h))
  have hne : w.heap.size ≠ w1.heap.size := Nat.ne_of_lt HX1.out.lt
  have hlt1 := HX1.out.lt
  clear ho hm1 hk1 HA
  unfold FaultV
  cases b with
  | true =>
    simp only [if_true]
    obtain ⟨x0, x1, f0, f1⟩ := HX1.out.cells
    have y0 := fun X => (HX1.out.below ((Below.refl _ _).alloc (Nat.le_refl _) X)).cells.1
    have y1 := fun X => (HX1.out.below ((Below.refl _ _).alloc (Nat.le_refl _) X)).cells.2.1
    have y2 := fun X => (HX1.out.below ((Below.refl _ _).alloc (Nat.le_refl _) X)).cells.2.2.1
    have y3 := fun X => (HX1.out.below ((Below.refl _ _).alloc (Nat.le_refl _) X)).cells.2.2.2
    go_wp2_with fail
    have hbx := (HX1.out.set 30 x).below ((Below.refl _ _).alloc (Nat.le_refl _) (Obj.cells #[.int .i64 30, .int .u64 x] 71))
    obtain ⟨d0, d1, _⟩ := hbx.cells
    refine bodyPost_ret (v := .agg #[.int .i64 30, .int .u64 x]) (by simp [results, Tryz.results57, go_sem, d0, d1]) rfl ?_
    have hk2 : Keeps (fun j => j = w.heap.size) w1 (((w1.setCell ⟨w.heap.size, 0, none⟩ (.int .i64 30)).setCell ⟨w.heap.size, 1, none⟩ (.int .u64 x)).alloc (Obj.cells #[.int .i64 30, .int .u64 x] 71)) := (Keeps.two w1 w.heap.size (.int .i64 30) (.int .u64 x)).trans (Keeps.alloc (S := fun _ => False) _ _) (fun _ _ h => h.elim)
    exact ⟨x, true, HOff.out, rfl, (HK1.out.mono (fun _ _ e => .inl e)).trans hk2 (fun i hi e => absurd e (by omega)), fun _ => HM1.out.keeps hk2 (fun j hj e => by have := HM.out.mine_lt hj; omega), fun h => by cases h⟩
  | false =>
    simp only [Bool.false_eq_true, if_false]
    have HLow : Hid (0 < n → a + n ≤ 4294967296) := fun h0 => off_low HOff.out HM.out h0
    have HXz : Hid (x = 0) := (HOff.out.2 rfl).1
    obtain ⟨x0, x1, f0, f1⟩ := HX1.out.cells
    have c6 := fun X => U64.cell_alloc' X HM1.out.cells.2.2.2.1
    have HB2 : Hid (Below w1.heap.size w1 (w1.alloc (Obj.cells #[.int .i64 0, .int .u64 x] 71))) := (Below.refl _ _).alloc (Nat.le_refl _) _
    have HM2 : Hid (Mac (w1.alloc (Obj.cells #[.int .i64 0, .int .u64 x] 71)) m B V T M rs ds L S X) := HM1.out.below HB2.out
    have HFl : Hid (Calls Tryz.prog 52 #[.map (some B), .int .u64 (a : Int), .slice ao n cap] (w1.alloc (Obj.cells #[.int .i64 0, .int .u64 x] 71)) (LaidPost (w1.alloc (Obj.cells #[.int .i64 0, .int .u64 x] 71)) B T (putAt M a zs))) := lay_all HM2.out.held HNz.out HLow.out (HSl.out.below HB2.out) (fun h0 j e hf => HNf.out h0 j e (.inr (.inl hf)))
    go_wp2_with fail
    refine HFl.out.mono ?_
    rintro e w4 ⟨rfl, T', hH4, hK4, hG4⟩
    have HM4 : Hid (Mac w4 m B V T' (putAt M a zs) rs ds L S X) := HM2.out.laid hH4 hK4 hG4
    have hXf : ¬ Foot B T w.heap.size := fun hf => by have := HM.out.held.foot_lt hf; omega
    have HX4 : Hid (BoxF w4 w.heap.size 0 0) := (HX1.out.below HB2.out).keeps hK4 hXf
    have HK4 : Hid (Keeps (fun j => j = m ∨ Foot B T j) w w4) := ((HK1.out.mono (fun _ _ e => .inl e)).trans (Keeps.of_below (S := fun _ => False) HB2.out) (fun _ _ h => h.elim)).trans hK4 (fun _ _ h => .inr h)
    have HG4 : Hid (Grows w.heap.size T T') := fun k g' e => (hG4 k g' e).imp id (fun h => by have := HB2.out.size; omega)
    have HNb : Hid (¬ Foot B T' w.heap.size) := fun hf => hXf (hG4.foot hf (by have := HB2.out.size; omega))
    obtain ⟨x0, x1, f0, f1⟩ := HX4.out.cells
    clear hH4 hK4 hG4 c6 HFl
    go_wp2_with fail
    obtain ⟨d0, d1, _⟩ := (HX4.out.set 0 0).cells
    refine bodyPost_ret (v := .agg #[.int .i64 0, .int .u64 0]) (by simp [results, Tryz.results57, go_sem, d0, d1]) rfl ?_
    have hk6 := Keeps.two w4 w.heap.size (.int .i64 0) (.int .u64 0)
    refine ⟨x, false, HOff.out, by rw [HXz.out]; rfl, HK4.out.trans hk6 (fun i hi e => absurd e (by omega)), fun h => (by cases h), fun _ => ⟨T', HM4.out.keeps hk6 (fun j hj e => ?_), HG4.out⟩⟩
    subst e
    rcases hj with h | h | ⟨u, hu, e⟩
    · omega
    · exact HNb.out h
    · have := HM.out.mine_lt (.inr (.inr ⟨u, hu, e⟩)); omega
end Go.Proofs.YtddgoncbdlhhhaaGreat
/- Read of a machine, of however many bytes; widths that are none, counts below 0. Own work. -/
namespace Go.Proofs.YtddgoncbdlhhhaaGreat
open Go.RowKit Go.Maps Go.Proofs.YtddgoncbdlhhhaaGreat.Sp
set_option maxRecDepth 100000 in
set_option maxHeartbeats 4000000 in
theorem read_none {w : World} {B : Nat} {a cap : Nat} {ao : Option Addr} :
    Calls Tryz.prog 47 #[.map (some B), .int .u64 (a : Int), .slice ao 0 cap] w fun e w' => e = .returned (.tuple #[]) ∧ w' = w := by
  go_enter Tryz.func47, Tryz.ntmps47
  go_wp2_with fail
  go_loopw [1, 2] (fun _ y wr => y = .slice ao 0 cap ∧ wr = w) (fun _ _ _ => 0)
  case atStart => exact ⟨rfl, rfl⟩
  case round =>
    obtain ⟨rfl, hw⟩ := hrel
    have hw := hw.symm
    subst hw
    go_wp2_with fail
    go_end0
    exact ⟨rfl, rfl⟩
theorem read_all {w : World} {B : Nat} {T : Nat → Option Nat} {M : Nat → Nat} {a g n : Nat} {t : TypeId} (h : Held w B T M) (ha : 0 < n → a + n ≤ 4294967296) (hg : RowT w t g (List.replicate n 0)) (hf : ¬ Foot B T g) (hcm : n ≤ maxLen) :
    Calls Tryz.prog 47 #[.map (some B), .int .u64 (a : Int), .slice (some ⟨g, 0, none⟩) n n] w fun e w' => e = .returned (.tuple #[]) ∧ RowT w' t g (bytesAt M a n) ∧ Keeps (fun j => j = g) w w' := by
  by_cases h0 : 0 < n
  · have := read_any h (ha h0) hg hf (Nat.le_refl _) (Nat.le_refl _) hcm
    rw [rdTo_all] at this
    exact this
  · obtain rfl : n = 0 := by omega
    refine (read_none (w := w) (B := B) (a := a) (cap := 0) (ao := some ⟨g, 0, none⟩)).mono ?_
    rintro e w' ⟨rfl, rfl⟩
    exact ⟨rfl, by simpa [bytesAt] using hg, Keeps.refl _ _⟩
/-- what Read does -/
def RdPost (w : World) (m B : Nat) (V : Value × Value × Value) (T : Nat → Option Nat) (M : Nat → Nat) (rs ds : List Sp) (L S X a n : Nat) (e : Ending) (w' : World) : Prop :=
  ∃ x b sl, OffR (rs ++ ds) a n x b ∧ e = .returned (.tuple #[sl, FaultV (if b then 30 else 0) x]) ∧ Mac w' m B V T M rs ds L S (up b X) ∧ Keeps (fun j => j = m) w w' ∧ (b = true → sl = .slice none 0 0) ∧ (b = false → ∃ g, sl = .slice (some ⟨g, 0, none⟩) n n ∧ w.heap.size ≤ g ∧ n ≤ 1099511627776 ∧ RowT w' 5 g (bytesAt M a n))
set_option maxRecDepth 100000 in
set_option maxHeartbeats 4000000 in
theorem readM_any {w : World} {m B : Nat} {V : Value × Value × Value} {T : Nat → Option Nat} {M : Nat → Nat} {rs ds : List Sp} {L S X a n : Nat} (h : Mac w m B V T M rs ds L S X) (ha : a ≤ 18446744073709551615) (hn : n ≤ 9223372036854775807) (hX : X ≤ 4611686018427387904) :
    Calls Tryz.prog 33 #[.pointer (some ⟨m, 0, none⟩), .int .u64 (a : Int), .int .i64 (n : Int)] w (RdPost w m B V T M rs ds L S X a n) := by
  have HA : Hid (∀ W, Below w.heap.size w W → Calls Tryz.prog 60 #[.pointer (some ⟨m, 0, none⟩), .int .u64 (a : Int), .int .i64 (n : Int)] W (AskPost W m B V T M rs ds L S X a n)) := fun W hW => askCount_any (h.below hW) ha hn hX
  have HM : Hid (Mac w m B V T M rs ds L S X) := h
  have hml := h.lt
  obtain ⟨i, hi, hz0, hz1, hz2⟩ := info_parts info_byte
  clear h
  go_enter Tryz.func33, Tryz.ntmps33
  go_wp2_with fail
  refine (HA.out _ ((Below.refl _ _).alloc (Nat.le_refl _) _)).mono ?_
  rintro e w1 ⟨x, b, ho, rfl, hm1, hk1⟩
  have HOff : Hid (OffR (rs ++ ds) a n x b) := ho
  have HX1 : Hid (BoxF w1 w.heap.size 0 0) := (BoxF.new w 0 0).keeps hk1 (by omega)
  have HM1 : Hid (Mac w1 m B V T M rs ds L S (up b X)) := hm1
  have HK1 : Hid (Keeps (fun j => j = m) w w1) := (Keeps.alloc (S := fun j => j = m) w _).trans hk1 (fun _ _ e => e)
  have hne : w.heap.size ≠ w1.heap.size := Nat.ne_of_lt HX1.out.lt
  have hlt1 := HX1.out.lt
  clear ho hm1 hk1 HA
  unfold FaultV
  cases b with
  | true =>
    simp only [if_true]
    clear hi hz0 hz1 hz2
    go_wp2_with fail
    obtain ⟨W2, hW2⟩ : ∃ W2, w1.alloc (Obj.cells #[.int .i64 30, .int .u64 x] 71) = W2 := ⟨_, rfl⟩
    have HF2 : Hid (BoxF W2 w1.heap.size 30 x) := hW2 ▸ BoxF.new w1 30 x
    have HX2 : Hid (BoxF W2 w.heap.size 0 0) := hW2 ▸ HX1.out.below ((Below.refl _ _).alloc (Nat.le_refl _) _)
    have HB2 : Hid (Below w1.heap.size w1 W2) := hW2 ▸ (Below.refl _ _).alloc (Nat.le_refl _) _
    try rw [hW2]
    obtain ⟨x0, x1, f0, f1⟩ := HX2.out.cells
    obtain ⟨y0, y1, _, _⟩ := HF2.out.cells
    clear hW2
    go_region_held3 (fun w' => w'.cell? ⟨w1.heap.size, 0, none⟩ = some (.int .i64 30) ∧ w'.cell? ⟨w1.heap.size, 1, none⟩ = some (.int .u64 x)) (go_keep) (fail)
    go_wp2_with fail
    obtain ⟨d0, d1, _⟩ := BoxF.cells (w := ((W2.setCell ⟨w.heap.size, 0, none⟩ (.int .i64 30)).setCell ⟨w.heap.size, 1, none⟩ (.int .u64 x)).drew) (HX2.out.set 30 x)
    refine bodyPost_ret (v := .tuple #[.slice none 0 0, .agg #[.int .i64 30, .int .u64 x]]) (by simp [results, Tryz.results33, go_sem, d0, d1]) rfl ?_
    have hk2 : Keeps (fun j => j = w.heap.size) W2 (((W2.setCell ⟨w.heap.size, 0, none⟩ (.int .i64 30)).setCell ⟨w.heap.size, 1, none⟩ (.int .u64 x)).drew) := (Keeps.two W2 w.heap.size (.int .i64 30) (.int .u64 x)).drew
    exact ⟨x, true, _, HOff.out, rfl, (HM1.out.below HB2.out).keeps hk2 (fun j hj e => by have := HM.out.mine_lt hj; omega), (HK1.out.trans (Keeps.of_below (S := fun _ => False) HB2.out) (fun _ _ h => h.elim)).trans hk2 (fun i hi e => absurd e (by omega)), fun _ => rfl, fun h => by cases h⟩
  | false =>
    simp only [Bool.false_eq_true, if_false]
    have HXz : Hid (x = 0) := (HOff.out.2 rfl).1
    obtain rfl := HXz.out
    have HLow : Hid (0 < n → a + n ≤ 4294967296) := fun h0 => off_low HOff.out HM.out h0
    have hn40 : n ≤ 1099511627776 := by
      by_cases h0 : 0 < n
      · have := HLow.out h0
        omega
      · omega
    obtain ⟨x0, x1, f0, f1⟩ := HX1.out.cells
    go_wp2_with (at_make; refine wpList_make_full _ rfl _ _ 27 rfl (w1.heap.size + 1) 5 i (.int .u8 0) 1 Tryz.underlying27 hi hz0 hz1 _ _ _ _ n rfl rfl (by omega) (by omega) (by rw [hz2]; omega) (by simp only [maxLen]; omega) (by simp) ?_)
    intro w2 hown hgrow
    have HR2 : Hid (RowT w2 5 (w1.heap.size + 1) (List.replicate n 0)) := row_made hown
    have HB2 : Hid (Below w1.heap.size w1 w2) := ((Below.refl _ _).alloc (Nat.le_refl _) _).grown hgrow (by simp) (by simp)
    have HM2 : Hid (Mac w2 m B V T M rs ds L S X) := HM1.out.below HB2.out
    have HX2 : Hid (BoxF w2 w.heap.size 0 0) := HX1.out.below HB2.out
    clear hown hgrow x0 x1 f0 f1 hi hz0 hz1 hz2
    obtain ⟨_, _, _, c6, _⟩ := HM2.out.cells
    have HRd : Hid (Calls Tryz.prog 47 #[.map (some B), .int .u64 (a : Int), .slice (some ⟨w1.heap.size + 1, 0, none⟩) n n] w2 fun e w' => e = .returned (.tuple #[]) ∧ RowT w' 5 (w1.heap.size + 1) (bytesAt M a n) ∧ Keeps (fun j => j = w1.heap.size + 1) w2 w') :=
      read_all HM2.out.held HLow.out HR2.out (fun hf => by have := HM1.out.held.foot_lt hf; omega) (by unfold maxLen; omega)
    go_wp2_with (first | (go_at_call 47; refine HRd.out.mono ?_; rintro e w3 ⟨rfl, hr3, hk3⟩; have HR3 : Hid (RowT w3 5 (w1.heap.size + 1) (bytesAt M a n)) := hr3; have HK3 : Hid (Keeps (fun j => j = w1.heap.size + 1) w2 w3) := hk3; have HX3 : Hid (BoxF w3 w.heap.size 0 0) := HX2.out.keeps HK3.out (by omega); obtain ⟨x0, x1, f0, f1⟩ := HX3.out.cells; clear hr3 hk3 HRd c6))
    obtain ⟨d0, d1, _⟩ := (HX3.out.set 0 0).cells
    refine bodyPost_ret (v := .tuple #[.slice (some ⟨w1.heap.size + 1, 0, none⟩) n n, .agg #[.int .i64 0, .int .u64 0]]) (by simp [results, Tryz.results33, go_sem, d0, d1]) rfl ?_
    have hk2 := Keeps.two w3 w.heap.size (.int .i64 0) (.int .u64 0)
    have hr := HR3.out
    refine ⟨0, false, _, HOff.out, rfl, (HM2.out.keeps HK3.out (fun j hj e => ?_)).keeps hk2 (fun j hj e => ?_), ((HK1.out.trans (Keeps.of_below (S := fun _ => False) HB2.out) (fun _ _ h => h.elim)).trans HK3.out (fun i hi e => absurd e ?_)).trans hk2 (fun i hi e => absurd e (by omega)), fun h => (by cases h), fun _ => ⟨_, rfl, by omega, hn40, (hk2.block (w1.heap.size + 1) (Array.getElem?_eq_some_iff.1 hr).1 (by show ¬ _; omega)).trans hr⟩⟩
    · have := HM.out.mine_lt hj; omega
    · have := HM.out.mine_lt hj; omega
    · omega
set_option maxRecDepth 100000 in
set_option maxHeartbeats 4000000 in
theorem askCount_not {w : World} {m : Nat} {a n : Int} (hn : n < 0) :
    Calls Tryz.prog 60 #[.pointer (some ⟨m, 0, none⟩), .int .u64 a, .int .i64 n] w fun e w' => e = .returned (FaultV 1 a) ∧ Below w.heap.size w w' := by
  go_enter Tryz.func60, Tryz.ntmps60
  go_wp2_with fail
  obtain ⟨d0, d1, _⟩ := (BoxF.new w 1 a).cells
  refine bodyPost_ret (v := .agg #[.int .i64 1, .int .u64 a]) (by simp [results, Tryz.results60, go_sem, d0, d1]) rfl ?_
  exact ⟨rfl, (Below.refl _ _).alloc (Nat.le_refl _) _⟩
set_option maxRecDepth 100000 in
set_option maxHeartbeats 4000000 in
theorem peekM_nw {w : World} {m : Nat} {a n : Int} (hn : n ≠ 1 ∧ n ≠ 2 ∧ n ≠ 4 ∧ n ≠ 8) : Calls Tryz.prog 21 #[.pointer (some ⟨m, 0, none⟩), .int .u64 a, .int .i64 n] w fun e w' => e = .returned (.tuple #[.int .u64 0, FaultV 31 a]) ∧ Below w.heap.size w w' := by
  have HA : Hid (∀ W, Calls Tryz.prog 46 #[.pointer (some ⟨m, 0, none⟩), .int .u64 a, .int .i64 n] W fun e w' => e = .returned (FaultV 31 a) ∧ Below W.heap.size W w') := fun W => askWidth_not hn
  clear hn
  unfold FaultV at HA ⊢
  go_enter Tryz.func21, Tryz.ntmps21
  go_wp2_with fail
  refine (HA.out _).mono ?_
  rintro e w1 ⟨rfl, hb1⟩
  have HX1 : Hid (BoxF w1 w.heap.size 0 0) := (BoxF.new w 0 0).below hb1
  have HB1 : Hid (Below w.heap.size w w1) := ((Below.refl _ _).alloc (Nat.le_refl _) _).trans (hb1.mono (by simp))
  have hne : w.heap.size ≠ w1.heap.size := Nat.ne_of_lt HX1.out.lt
  have hlt1 := HX1.out.lt
  clear hb1 HA
  go_wp2_with fail
  obtain ⟨W2, hW2⟩ : ∃ W2, w1.alloc (Obj.cells #[.int .i64 31, .int .u64 a] 71) = W2 := ⟨_, rfl⟩
  have HF2 : Hid (BoxF W2 w1.heap.size 31 a) := hW2 ▸ BoxF.new w1 31 a
  have HX2 : Hid (BoxF W2 w.heap.size 0 0) := hW2 ▸ HX1.out.below ((Below.refl _ _).alloc (Nat.le_refl _) _)
  have HB2 : Hid (Below w1.heap.size w1 W2) := hW2 ▸ (Below.refl _ _).alloc (Nat.le_refl _) _
  rw [hW2]
  obtain ⟨x0, x1, f0, f1⟩ := HX2.out.cells
  obtain ⟨y0, y1, _, _⟩ := HF2.out.cells
  clear hW2
  go_region_held3 (fun w' => w'.cell? ⟨w1.heap.size, 0, none⟩ = some (.int .i64 31) ∧ w'.cell? ⟨w1.heap.size, 1, none⟩ = some (.int .u64 a)) (go_keep) (fail)
  go_wp2_with fail
  obtain ⟨d0, d1, _⟩ := BoxF.cells (w := ((W2.setCell ⟨w.heap.size, 0, none⟩ (.int .i64 31)).setCell ⟨w.heap.size, 1, none⟩ (.int .u64 a)).drew) (HX2.out.set 31 a)
  refine bodyPost_ret (v := .tuple #[.int .u64 0, .agg #[.int .i64 31, .int .u64 a]]) (by simp [results, Tryz.results21, go_sem, d0, d1]) rfl ?_
  exact ⟨rfl, (HB1.out.trans (HB2.out.mono HB1.out.size)).trans (Keeps.below (Keeps.two W2 w.heap.size (.int .i64 31) (.int .u64 a)).drew (Nat.le_trans HB1.out.size HB2.out.size) (fun i _ e => by omega))⟩
set_option maxRecDepth 100000 in
set_option maxHeartbeats 4000000 in
theorem storeM_nw {w : World} {m : Nat} {a n z : Int} (hn : n ≠ 1 ∧ n ≠ 2 ∧ n ≠ 4 ∧ n ≠ 8) : Calls Tryz.prog 23 #[.pointer (some ⟨m, 0, none⟩), .int .u64 a, .int .i64 n, .int .u64 z] w fun e w' => e = .returned (FaultV 31 a) ∧ Below w.heap.size w w' := by
  have HA : Hid (∀ W, Calls Tryz.prog 46 #[.pointer (some ⟨m, 0, none⟩), .int .u64 a, .int .i64 n] W fun e w' => e = .returned (FaultV 31 a) ∧ Below W.heap.size W w') := fun W => askWidth_not hn
  clear hn
  unfold FaultV at HA ⊢
  go_enter Tryz.func23, Tryz.ntmps23
  go_wp2_with fail
  refine (HA.out _).mono ?_
  rintro e w1 ⟨rfl, hb1⟩
  have HX1 : Hid (BoxF w1 w.heap.size 0 0) := (BoxF.new w 0 0).below hb1
  have HB1 : Hid (Below w.heap.size w w1) := ((Below.refl _ _).alloc (Nat.le_refl _) _).trans (hb1.mono (by simp))
  have hne : w.heap.size ≠ w1.heap.size := Nat.ne_of_lt HX1.out.lt
  have hlt1 := HX1.out.lt
  clear hb1 HA
  obtain ⟨x0, x1, f0, f1⟩ := HX1.out.cells
  have y0 := fun X => (HX1.out.below ((Below.refl _ _).alloc (Nat.le_refl _) X)).cells.1
  have y1 := fun X => (HX1.out.below ((Below.refl _ _).alloc (Nat.le_refl _) X)).cells.2.1
  have y2 := fun X => (HX1.out.below ((Below.refl _ _).alloc (Nat.le_refl _) X)).cells.2.2.1
  have y3 := fun X => (HX1.out.below ((Below.refl _ _).alloc (Nat.le_refl _) X)).cells.2.2.2
  go_wp2_with fail
  have hbx := (HX1.out.set 31 a).below ((Below.refl _ _).alloc (Nat.le_refl _) (Obj.cells #[.int .i64 31, .int .u64 a] 71))
  obtain ⟨d0, d1, _⟩ := hbx.cells
  refine bodyPost_ret (v := .agg #[.int .i64 31, .int .u64 a]) (by simp [results, Tryz.results23, go_sem, d0, d1]) rfl ?_
  have hk2 : Keeps (fun j => j = w.heap.size) w1 (((w1.setCell ⟨w.heap.size, 0, none⟩ (.int .i64 31)).setCell ⟨w.heap.size, 1, none⟩ (.int .u64 a)).alloc (Obj.cells #[.int .i64 31, .int .u64 a] 71)) := (Keeps.two w1 w.heap.size (.int .i64 31) (.int .u64 a)).trans (Keeps.alloc (S := fun _ => False) _ _) (fun _ _ h => h.elim)
  exact ⟨rfl, HB1.out.trans (hk2.below HB1.out.size (fun i _ e => by omega))⟩
set_option maxRecDepth 100000 in
set_option maxHeartbeats 4000000 in
theorem readM_neg {w : World} {m : Nat} {a n : Int} (hn : n < 0) : Calls Tryz.prog 33 #[.pointer (some ⟨m, 0, none⟩), .int .u64 a, .int .i64 n] w fun e w' => e = .returned (.tuple #[.slice none 0 0, FaultV 1 a]) ∧ Below w.heap.size w w' := by
  have HA : Hid (∀ W, Calls Tryz.prog 60 #[.pointer (some ⟨m, 0, none⟩), .int .u64 a, .int .i64 n] W fun e w' => e = .returned (FaultV 1 a) ∧ Below W.heap.size W w') := fun W => askCount_not hn
  clear hn
  unfold FaultV at HA ⊢
  go_enter Tryz.func33, Tryz.ntmps33
  go_wp2_with fail
  refine (HA.out _).mono ?_
  rintro e w1 ⟨rfl, hb1⟩
  have HX1 : Hid (BoxF w1 w.heap.size 0 0) := (BoxF.new w 0 0).below hb1
  have HB1 : Hid (Below w.heap.size w w1) := ((Below.refl _ _).alloc (Nat.le_refl _) _).trans (hb1.mono (by simp))
  have hne : w.heap.size ≠ w1.heap.size := Nat.ne_of_lt HX1.out.lt
  have hlt1 := HX1.out.lt
  clear hb1 HA
  go_wp2_with fail
  obtain ⟨W2, hW2⟩ : ∃ W2, w1.alloc (Obj.cells #[.int .i64 1, .int .u64 a] 71) = W2 := ⟨_, rfl⟩
  have HF2 : Hid (BoxF W2 w1.heap.size 1 a) := hW2 ▸ BoxF.new w1 1 a
  have HX2 : Hid (BoxF W2 w.heap.size 0 0) := hW2 ▸ HX1.out.below ((Below.refl _ _).alloc (Nat.le_refl _) _)
  have HB2 : Hid (Below w1.heap.size w1 W2) := hW2 ▸ (Below.refl _ _).alloc (Nat.le_refl _) _
  rw [hW2]
  obtain ⟨x0, x1, f0, f1⟩ := HX2.out.cells
  obtain ⟨y0, y1, _, _⟩ := HF2.out.cells
  clear hW2
  go_region_held3 (fun w' => w'.cell? ⟨w1.heap.size, 0, none⟩ = some (.int .i64 1) ∧ w'.cell? ⟨w1.heap.size, 1, none⟩ = some (.int .u64 a)) (go_keep) (fail)
  go_wp2_with fail
  obtain ⟨d0, d1, _⟩ := BoxF.cells (w := ((W2.setCell ⟨w.heap.size, 0, none⟩ (.int .i64 1)).setCell ⟨w.heap.size, 1, none⟩ (.int .u64 a)).drew) (HX2.out.set 1 a)
  refine bodyPost_ret (v := .tuple #[.slice none 0 0, .agg #[.int .i64 1, .int .u64 a]]) (by simp [results, Tryz.results33, go_sem, d0, d1]) rfl ?_
  exact ⟨rfl, (HB1.out.trans (HB2.out.mono HB1.out.size)).trans (Keeps.below (Keeps.two W2 w.heap.size (.int .i64 1) (.int .u64 a)).drew (Nat.le_trans HB1.out.size HB2.out.size) (fun i _ e => by omega))⟩
set_option maxRecDepth 100000 in
set_option maxHeartbeats 4000000 in
theorem fillM_neg {w : World} {m : Nat} {a n z : Int} (hn : n < 0) : Calls Tryz.prog 27 #[.pointer (some ⟨m, 0, none⟩), .int .u64 a, .int .i64 n, .int .u8 z] w fun e w' => e = .returned (FaultV 1 a) ∧ Below w.heap.size w w' := by
  have HA : Hid (∀ W, Calls Tryz.prog 60 #[.pointer (some ⟨m, 0, none⟩), .int .u64 a, .int .i64 n] W fun e w' => e = .returned (FaultV 1 a) ∧ Below W.heap.size W w') := fun W => askCount_not hn
  clear hn
  unfold FaultV at HA ⊢
  go_enter Tryz.func27, Tryz.ntmps27
  go_wp2_with fail
  refine (HA.out _).mono ?_
  rintro e w1 ⟨rfl, hb1⟩
  have HX1 : Hid (BoxF w1 w.heap.size 0 0) := (BoxF.new w 0 0).below hb1
  have HB1 : Hid (Below w.heap.size w w1) := ((Below.refl _ _).alloc (Nat.le_refl _) _).trans (hb1.mono (by simp))
  have hne : w.heap.size ≠ w1.heap.size := Nat.ne_of_lt HX1.out.lt
  have hlt1 := HX1.out.lt
  clear hb1 HA
  obtain ⟨x0, x1, f0, f1⟩ := HX1.out.cells
  have y0 := fun X => (HX1.out.below ((Below.refl _ _).alloc (Nat.le_refl _) X)).cells.1
  have y1 := fun X => (HX1.out.below ((Below.refl _ _).alloc (Nat.le_refl _) X)).cells.2.1
  have y2 := fun X => (HX1.out.below ((Below.refl _ _).alloc (Nat.le_refl _) X)).cells.2.2.1
  have y3 := fun X => (HX1.out.below ((Below.refl _ _).alloc (Nat.le_refl _) X)).cells.2.2.2
  go_wp2_with fail
  have hbx := (HX1.out.set 1 a).below ((Below.refl _ _).alloc (Nat.le_refl _) (Obj.cells #[.int .i64 1, .int .u64 a] 71))
  obtain ⟨d0, d1, _⟩ := hbx.cells
  refine bodyPost_ret (v := .agg #[.int .i64 1, .int .u64 a]) (by simp [results, Tryz.results27, go_sem, d0, d1]) rfl ?_
  have hk2 : Keeps (fun j => j = w.heap.size) w1 (((w1.setCell ⟨w.heap.size, 0, none⟩ (.int .i64 1)).setCell ⟨w.heap.size, 1, none⟩ (.int .u64 a)).alloc (Obj.cells #[.int .i64 1, .int .u64 a] 71)) := (Keeps.two w1 w.heap.size (.int .i64 1) (.int .u64 a)).trans (Keeps.alloc (S := fun _ => False) _ _) (fun _ _ h => h.elim)
  exact ⟨rfl, HB1.out.trans (hk2.below HB1.out.size (fun i _ e => by omega))⟩
set_option maxRecDepth 100000 in
set_option maxHeartbeats 4000000 in
theorem loadM_nw {w : World} {m : Nat} {a n : Int} (hn : n ≠ 1 ∧ n ≠ 2 ∧ n ≠ 4 ∧ n ≠ 8) : Calls Tryz.prog 18 #[.pointer (some ⟨m, 0, none⟩), .int .u64 a, .int .i64 n] w fun e w' => e = .returned (.tuple #[.int .u64 0, FaultV 31 a]) ∧ Below w.heap.size w w' := by
  have HA : Hid (∀ W, Calls Tryz.prog 21 #[.pointer (some ⟨m, 0, none⟩), .int .u64 a, .int .i64 n] W fun e w' => e = .returned (.tuple #[.int .u64 0, FaultV 31 a]) ∧ Below W.heap.size W w') := fun W => peekM_nw hn
  clear hn
  unfold FaultV at HA ⊢
  go_enter Tryz.func18, Tryz.ntmps18
  go_wp2_with fail
  refine (HA.out _).mono ?_
  rintro e w1 ⟨rfl, hb1⟩
  have HX1 : Hid (BoxF w1 w.heap.size 0 0) := (BoxF.new w 0 0).below hb1
  have HB1 : Hid (Below w.heap.size w w1) := ((Below.refl _ _).alloc (Nat.le_refl _) _).trans (hb1.mono (by simp))
  have hne : w.heap.size ≠ w1.heap.size := Nat.ne_of_lt HX1.out.lt
  have hlt1 := HX1.out.lt
  clear hb1 HA
  go_wp2_with fail
  obtain ⟨W2, hW2⟩ : ∃ W2, w1.alloc (Obj.cells #[.int .i64 31, .int .u64 a] 71) = W2 := ⟨_, rfl⟩
  have HF2 : Hid (BoxF W2 w1.heap.size 31 a) := hW2 ▸ BoxF.new w1 31 a
  have HX2 : Hid (BoxF W2 w.heap.size 0 0) := hW2 ▸ HX1.out.below ((Below.refl _ _).alloc (Nat.le_refl _) _)
  have HB2 : Hid (Below w1.heap.size w1 W2) := hW2 ▸ (Below.refl _ _).alloc (Nat.le_refl _) _
  rw [hW2]
  obtain ⟨x0, x1, f0, f1⟩ := HX2.out.cells
  obtain ⟨y0, y1, _, _⟩ := HF2.out.cells
  clear hW2
  go_region_held3 (fun w' => w'.cell? ⟨w1.heap.size, 0, none⟩ = some (.int .i64 31) ∧ w'.cell? ⟨w1.heap.size, 1, none⟩ = some (.int .u64 a)) (go_keep) (fail)
  go_wp2_with fail
  obtain ⟨d0, d1, _⟩ := BoxF.cells (w := ((W2.setCell ⟨w.heap.size, 0, none⟩ (.int .i64 31)).setCell ⟨w.heap.size, 1, none⟩ (.int .u64 a)).drew) (HX2.out.set 31 a)
  refine bodyPost_ret (v := .tuple #[.int .u64 0, .agg #[.int .i64 31, .int .u64 a]]) (by simp [results, Tryz.results18, go_sem, d0, d1]) rfl ?_
  exact ⟨rfl, (HB1.out.trans (HB2.out.mono HB1.out.size)).trans (Keeps.below (Keeps.two W2 w.heap.size (.int .i64 31) (.int .u64 a)).drew (Nat.le_trans HB1.out.size HB2.out.size) (fun i _ e => by omega))⟩
end Go.Proofs.YtddgoncbdlhhhaaGreat
