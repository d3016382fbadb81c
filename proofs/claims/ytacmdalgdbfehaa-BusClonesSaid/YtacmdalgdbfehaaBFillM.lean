/- Fill, Write of a machine. Own work. -/
import Derived.Test.YtacmdalgdbfehaaBFill
import Derived.Test.YtacmdalgdbfehaaBReadM
namespace Go.Proofs.Ytacmdalgdbfehaa
open Go.RowKit Go.Maps Go.Proofs.Ytacmdalgdbfehaa.Sp
set_option maxRecDepth 100000 in
set_option maxHeartbeats 4000000 in
theorem fill_zero {w : World} {B : Nat} {T : Nat → Option Nat} {M : Nat → Nat} {a z : Nat} (h : Held w B T M) :
    Calls Try.prog 39 #[.map (some B), .int .u64 (a : Int), .int .i64 0, .int .u8 (z : Int)] w (LaidPost w B T M) := by
  have HH : Hid (Held w B T M) := h
  have HR : Hid (∀ W b, Calls Try.prog 57 #[.slice (some ⟨b, 0, none⟩) 1 1, .int .i64 0] W fun e w' => ∃ v, e = .returned v ∧ Below W.heap.size W w') := fun W b => repeat_zero
  clear h
  go_enter Try.func39, Try.ntmps39
  go_wp2_with fail
  refine (HR.out _ _).mono ?_
  rintro e w1 ⟨v, rfl, hb1⟩
  have HB1 : Hid (Below w.heap.size w w1) := ((Below.refl _ _).alloc (Nat.le_refl _) _).trans (hb1.mono (by simp))
  clear hb1
  go_wp2_with fail
  go_loopw [1, 2] (fun _ y wr => y = .int .i64 0 ∧ wr = w1) (fun _ _ _ => 0)
  case atStart => exact ⟨rfl, rfl⟩
  case round =>
    obtain ⟨rfl, hw⟩ := hrel
    have hw := hw.symm
    subst hw
    go_wp2_with fail
    go_end0
    exact ⟨rfl, T, HH.out.below HB1.out, Keeps.of_below HB1.out, Grows.refl _ _⟩
set_option maxRecDepth 100000 in
set_option maxHeartbeats 4000000 in
theorem lay_none {w : World} {B : Nat} {T : Nat → Option Nat} {M : Nat → Nat} {a cap : Nat} {ao : Option Addr} (h : Held w B T M) :
    Calls Try.prog 36 #[.map (some B), .int .u64 (a : Int), .slice ao 0 cap] w (LaidPost w B T M) := by
  have HH : Hid (Held w B T M) := h
  clear h
  go_enter Try.func36, Try.ntmps36
  go_wp2_with fail
  go_loopw [1, 2] (fun _ y wr => y = .slice ao 0 cap ∧ wr = w) (fun _ _ _ => 0)
  case atStart => exact ⟨rfl, rfl⟩
  case round =>
    obtain ⟨rfl, hw⟩ := hrel
    have hw := hw.symm
    subst hw
    go_wp2_with fail
    go_end0
    exact ⟨rfl, T, HH.out, Keeps.refl _ _, Grows.refl _ _⟩
theorem sl_own_lt {w : World} {b o n cap : Nat} {zs : List Nat} (h : Sl w (.slice (some ⟨b, o, none⟩) n cap) zs) (hz : 0 < zs.length) : b < w.heap.size := by
  obtain ⟨ao, cap', e, _, _, _, _, h5⟩ := h
  obtain ⟨b', o', e2, hc⟩ := h5 0 hz
  injection e with e1
  rw [e2] at e1
  injection e1 with e1
  injection e1 with e1
  rw [e1]
  exact World.block_lt_of_cell? w _ hc
theorem sl_keeps {Z : Nat → Prop} {w w' : World} {ao : Option Addr} {n cap : Nat} {zs : List Nat} (hn : n = zs.length) (h : Sl w (.slice ao n cap) zs) (hk : Keeps Z w w') (hz : 0 < n → ∀ j, (Value.slice ao n cap).ownBlock = some j → ¬ Z j) : Sl w' (.slice ao n cap) zs := by
  by_cases h0 : 0 < n
  · exact h.keeps hk (hz h0)
  · obtain rfl : zs = [] := List.eq_nil_of_length_eq_zero (by omega)
    obtain ⟨ao', cap', e, h1, h2, h3, h4, h5⟩ := h
    exact ⟨ao', cap', e, h1, h2, h3, h4, fun i hi => by simp at hi⟩
theorem fill_all {w : World} {B : Nat} {T : Nat → Option Nat} {M : Nat → Nat} {a z N : Nat} (h : Held w B T M) (ha : 0 < N → a + N ≤ 4294967296) (hz : z < 256) :
    Calls Try.prog 39 #[.map (some B), .int .u64 (a : Int), .int .i64 (N : Int), .int .u8 (z : Int)] w (LaidPost w B T (putAt M a (List.replicate N z))) := by
  by_cases hN : 0 < N
  · exact fill_any h (ha hN) hz hN
  · obtain rfl : N = 0 := by omega
    rw [List.replicate_zero, putAt_nil]
    exact fill_zero h
theorem lay_all {w : World} {B : Nat} {T : Nat → Option Nat} {M : Nat → Nat} {a n cap : Nat} {ao : Option Addr} {zs : List Nat} (h : Held w B T M) (hn : n = zs.length) (ha : 0 < n → a + n ≤ 4294967296) (hs : Sl w (.slice ao n cap) zs) (hb : 0 < n → ∀ j, (Value.slice ao n cap).ownBlock = some j → ¬ Foot B T j) :
    Calls Try.prog 36 #[.map (some B), .int .u64 (a : Int), .slice ao n cap] w (LaidPost w B T (putAt M a zs)) := by
  subst hn
  by_cases hN : 0 < zs.length
  · obtain ⟨b, o, cap', e, _, _, _⟩ := hs.pos hN
    cases e
    exact lay_some h (ha hN) hs (hb hN b rfl) (sl_own_lt hs hN)
  · obtain rfl : zs = [] := List.eq_nil_of_length_eq_zero (by omega)
    rw [putAt_nil]
    exact lay_none h
def FillPost (w : World) (m B : Nat) (V : Value × Value × Value) (T : Nat → Option Nat) (M M' : Nat → Nat) (rs ds : List Sp) (L S X a n : Nat) (e : Ending) (w' : World) : Prop :=
  ∃ x b, OffR (rs ++ ds) a n x b ∧ e = .returned (FaultV (if b then 30 else 0) x) ∧ Keeps (fun j => j = m ∨ Foot B T j) w w' ∧ (b = true → Mac w' m B V T M rs ds L S (X + 1)) ∧ (b = false → ∃ T', Mac w' m B V T' M' rs ds L S X ∧ Grows w.heap.size T T')
set_option maxRecDepth 100000 in
set_option maxHeartbeats 4000000 in
theorem fillM_any {w : World} {m B : Nat} {V : Value × Value × Value} {T : Nat → Option Nat} {M : Nat → Nat} {rs ds : List Sp} {L S X a n z : Nat} (h : Mac w m B V T M rs ds L S X) (ha : a ≤ 18446744073709551615) (hn : n ≤ 9223372036854775807) (hz : z < 256) (hX : X ≤ 4611686018427387904) :
    Calls Try.prog 22 #[.pointer (some ⟨m, 0, none⟩), .int .u64 (a : Int), .int .i64 (n : Int), .int .u8 (z : Int)] w (FillPost w m B V T M (putAt M a (List.replicate n z)) rs ds L S X a n) := by
  have HA : Hid (∀ W, Below w.heap.size w W → Calls Try.prog 38 #[.pointer (some ⟨m, 0, none⟩), .int .u64 (a : Int), .int .i64 (n : Int)] W (AskPost W m B V T M rs ds L S X a n)) := fun W hW => askCount_any (h.below hW) ha hn hX
  have HM : Hid (Mac w m B V T M rs ds L S X) := h
  have hml := h.lt
  clear h
  go_enter Try.func22, Try.ntmps22
  go_wp2_with fail
  refine (HA.out _ ((Below.refl _ _).alloc (Nat.le_refl _) _)).mono ?_
  rintro e w1 ⟨x, b, ho, rfl, hm1, hk1⟩
  have HOff : Hid (OffR (rs ++ ds) a n x b) := ho
  have HX1 : Hid (BoxF w1 w.heap.size 0 0) := (BoxF.new w 0 0).keeps hk1 (by omega)
  have HM1 : Hid (Mac w1 m B V T M rs ds L S (up b X)) := hm1
  have HK1 : Hid (Keeps (fun j => j = m) w w1) := (Keeps.alloc (S := fun j => j = m) w _).trans hk1 (fun _ _ e => e)
  have hne : w.heap.size ≠ w1.heap.size := Nat.ne_of_lt HX1.out.lt
  have hlt1 := HX1.out.lt
  clear ho hm1 hk1 HA
  unfold FaultV
  cases b with
  | true =>
    simp only [if_true]
    obtain ⟨x0, x1, f0, f1⟩ := HX1.out.cells
    have y0 := fun X => (HX1.out.below ((Below.refl _ _).alloc (Nat.le_refl _) X)).cells.1
    have y1 := fun X => (HX1.out.below ((Below.refl _ _).alloc (Nat.le_refl _) X)).cells.2.1
    have y2 := fun X => (HX1.out.below ((Below.refl _ _).alloc (Nat.le_refl _) X)).cells.2.2.1
    have y3 := fun X => (HX1.out.below ((Below.refl _ _).alloc (Nat.le_refl _) X)).cells.2.2.2
    go_wp2_with fail
    have hbx := (HX1.out.set 30 x).below ((Below.refl _ _).alloc (Nat.le_refl _) (Obj.cells #[.int .i64 30, .int .u64 x] 42))
    obtain ⟨d0, d1, _⟩ := hbx.cells
    refine bodyPost_ret (v := .agg #[.int .i64 30, .int .u64 x]) (by simp [results, Try.results22, go_sem, d0, d1]) rfl ?_
    have hk2 : Keeps (fun j => j = w.heap.size) w1 (((w1.setCell ⟨w.heap.size, 0, none⟩ (.int .i64 30)).setCell ⟨w.heap.size, 1, none⟩ (.int .u64 x)).alloc (Obj.cells #[.int .i64 30, .int .u64 x] 42)) := (Keeps.two w1 w.heap.size (.int .i64 30) (.int .u64 x)).trans (Keeps.alloc (S := fun _ => False) _ _) (fun _ _ h => h.elim)
    exact ⟨x, true, HOff.out, rfl, (HK1.out.mono (fun _ _ e => .inl e)).trans hk2 (fun i hi e => absurd e (by omega)), fun _ => HM1.out.keeps hk2 (fun j hj e => by have := HM.out.mine_lt hj; omega), fun h => by cases h⟩
  | false =>
    simp only [Bool.false_eq_true, if_false]
    have HLow : Hid (0 < n → a + n ≤ 4294967296) := fun h0 => off_low HOff.out HM.out h0
    have HXz : Hid (x = 0) := (HOff.out.2 rfl).1
    obtain ⟨x0, x1, f0, f1⟩ := HX1.out.cells
    have c6 := fun X => U64.cell_alloc' X HM1.out.cells.2.2.2.1
    have HB2 : Hid (Below w1.heap.size w1 (w1.alloc (Obj.cells #[.int .i64 0, .int .u64 x] 42))) := (Below.refl _ _).alloc (Nat.le_refl _) _
    have HM2 : Hid (Mac (w1.alloc (Obj.cells #[.int .i64 0, .int .u64 x] 42)) m B V T M rs ds L S X) := HM1.out.below HB2.out
    have HFl : Hid (Calls Try.prog 39 #[.map (some B), .int .u64 (a : Int), .int .i64 (n : Int), .int .u8 (z : Int)] (w1.alloc (Obj.cells #[.int .i64 0, .int .u64 x] 42)) (LaidPost (w1.alloc (Obj.cells #[.int .i64 0, .int .u64 x] 42)) B T (putAt M a (List.replicate n z)))) := fill_all HM2.out.held HLow.out hz
    go_wp2_with fail
    refine HFl.out.mono ?_
    rintro e w4 ⟨rfl, T', hH4, hK4, hG4⟩
    have HM4 : Hid (Mac w4 m B V T' (putAt M a (List.replicate n z)) rs ds L S X) := HM2.out.laid hH4 hK4 hG4
    have hXf : ¬ Foot B T w.heap.size := fun hf => by have := HM.out.held.foot_lt hf; omega
    have HX4 : Hid (BoxF w4 w.heap.size 0 0) := (HX1.out.below HB2.out).keeps hK4 hXf
    have HK4 : Hid (Keeps (fun j => j = m ∨ Foot B T j) w w4) := ((HK1.out.mono (fun _ _ e => .inl e)).trans (Keeps.of_below (S := fun _ => False) HB2.out) (fun _ _ h => h.elim)).trans hK4 (fun _ _ h => .inr h)
    have HG4 : Hid (Grows w.heap.size T T') := fun k g' e => (hG4 k g' e).imp id (fun h => by have := HB2.out.size; omega)
    have HNb : Hid (¬ Foot B T' w.heap.size) := fun hf => hXf (hG4.foot hf (by have := HB2.out.size; omega))
    obtain ⟨x0, x1, f0, f1⟩ := HX4.out.cells
    clear hH4 hK4 hG4 c6 HFl
    go_wp2_with fail
    obtain ⟨d0, d1, _⟩ := (HX4.out.set 0 0).cells
    refine bodyPost_ret (v := .agg #[.int .i64 0, .int .u64 0]) (by simp [results, Try.results22, go_sem, d0, d1]) rfl ?_
    have hk6 := Keeps.two w4 w.heap.size (.int .i64 0) (.int .u64 0)
    refine ⟨x, false, HOff.out, by rw [HXz.out]; rfl, HK4.out.trans hk6 (fun i hi e => absurd e (by omega)), fun h => (by cases h), fun _ => ⟨T', HM4.out.keeps hk6 (fun j hj e => ?_), HG4.out⟩⟩
    subst e
    rcases hj with h | h | ⟨u, hu, e⟩
    · omega
    · exact HNb.out h
    · have := HM.out.mine_lt (.inr (.inr ⟨u, hu, e⟩)); omega
end Go.Proofs.Ytacmdalgdbfehaa
