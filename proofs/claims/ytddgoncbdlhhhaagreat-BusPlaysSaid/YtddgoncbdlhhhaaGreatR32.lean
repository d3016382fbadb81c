import Derived.Test.YtddgoncbdlhhhaaGreatR31
import Derived.Test.YtddgoncbdlhhhaaGreatR16
import Derived.Deep.RegionHeld3
import Derived.Test.YtddgoncbdlhhhaaGreatR22
import Derived.Test.YtddgoncbdlhhhaaGreatR28
import Derived.Test.YtddgoncbdlhhhaaGreatR29
import Derived.Test.YtddgoncbdlhhhaaGreatR30
/- Read of a machine, of however many bytes; widths that are none, counts below 0. Own work. -/
namespace Go.Proofs.YtddgoncbdlhhhaaGreat
open Go.RowKit Go.Maps Go.Proofs.YtddgoncbdlhhhaaGreat.Sp
set_option maxRecDepth 100000 in
set_option maxHeartbeats 4000000 in
theorem read_none {w : World} {B : Nat} {a cap : Nat} {ao : Option Addr} :
    Calls Tryz.prog 47 #[.map (some B), .int .u64 (a : Int), .slice ao 0 cap] w fun e w' => e = .returned (.tuple #[]) ∧ w' = w := by
  go_enter Tryz.func47, Tryz.ntmps47
  go_wp2_with fail
  go_loopw [1, 2] (fun _ y wr => y = .slice ao 0 cap ∧ wr = w) (fun _ _ _ => 0)
  case atStart => exact ⟨rfl, rfl⟩
  case round =>
    obtain ⟨rfl, hw⟩ := hrel
    have hw := hw.symm
    subst hw
    go_wp2_with fail
    go_end0
    exact ⟨rfl, rfl⟩
theorem read_all {w : World} {B : Nat} {T : Nat → Option Nat} {M : Nat → Nat} {a g n : Nat} {t : TypeId} (h : Held w B T M) (ha : 0 < n → a + n ≤ 4294967296) (hg : RowT w t g (List.replicate n 0)) (hf : ¬ Foot B T g) (hcm : n ≤ maxLen) :
    Calls Tryz.prog 47 #[.map (some B), .int .u64 (a : Int), .slice (some ⟨g, 0, none⟩) n n] w fun e w' => e = .returned (.tuple #[]) ∧ RowT w' t g (bytesAt M a n) ∧ Keeps (fun j => j = g) w w' := by
  by_cases h0 : 0 < n
  · have := read_any h (ha h0) hg hf (Nat.le_refl _) (Nat.le_refl _) hcm
    rw [rdTo_all] at this
    exact this
  · obtain rfl : n = 0 := by omega
    refine (read_none (w := w) (B := B) (a := a) (cap := 0) (ao := some ⟨g, 0, none⟩)).mono ?_
    rintro e w' ⟨rfl, rfl⟩
    exact ⟨rfl, by simpa [bytesAt] using hg, Keeps.refl _ _⟩
/-- what Read does -/
def RdPost (w : World) (m B : Nat) (V : Value × Value × Value) (T : Nat → Option Nat) (M : Nat → Nat) (rs ds : List Sp) (L S X a n : Nat) (e : Ending) (w' : World) : Prop :=
  ∃ x b sl, OffR (rs ++ ds) a n x b ∧ e = .returned (.tuple #[sl, FaultV (if b then 30 else 0) x]) ∧ Mac w' m B V T M rs ds L S (up b X) ∧ Keeps (fun j => j = m) w w' ∧ (b = true → sl = .slice none 0 0) ∧ (b = false → ∃ g, sl = .slice (some ⟨g, 0, none⟩) n n ∧ w.heap.size ≤ g ∧ n ≤ 1099511627776 ∧ RowT w' 5 g (bytesAt M a n))
set_option maxRecDepth 100000 in
set_option maxHeartbeats 4000000 in
theorem readM_any {w : World} {m B : Nat} {V : Value × Value × Value} {T : Nat → Option Nat} {M : Nat → Nat} {rs ds : List Sp} {L S X a n : Nat} (h : Mac w m B V T M rs ds L S X) (ha : a ≤ 18446744073709551615) (hn : n ≤ 9223372036854775807) (hX : X ≤ 4611686018427387904) :
    Calls Tryz.prog 33 #[.pointer (some ⟨m, 0, none⟩), .int .u64 (a : Int), .int .i64 (n : Int)] w (RdPost w m B V T M rs ds L S X a n) := by
  have HA : Hid (∀ W, Below w.heap.size w W → Calls Tryz.prog 60 #[.pointer (some ⟨m, 0, none⟩), .int .u64 (a : Int), .int .i64 (n : Int)] W (AskPost W m B V T M rs ds L S X a n)) := fun W hW => askCount_any (h.below hW) ha hn hX
  have HM : Hid (Mac w m B V T M rs ds L S X) := h
  have hml := h.lt
  obtain ⟨i, hi, hz0, hz1, hz2⟩ := info_parts info_byte
  clear h
  go_enter Tryz.func33, Tryz.ntmps33
  go_wp2_with fail
  refine (HA.out _ ((Below.refl _ _).alloc (Nat.le_refl _) _)).mono ?_
  rintro e w1 ⟨x, b, ho, rfl, hm1, hk1⟩
  have HOff : Hid (OffR (rs ++ ds) a n x b) := ho
  have HX1 : Hid (BoxF w1 w.heap.size 0 0) := (BoxF.new w 0 0).keeps hk1 (by omega)
  have HM1 : Hid (Mac w1 m B V T M rs ds L S (up b X)) := hm1
  have HK1 : Hid (Keeps (fun j => j = m) w w1) := (Keeps.alloc (S := fun j => j = m) w _).trans hk1 (fun _ _ e => e)
  have hne : w.heap.size ≠ w1.heap.size := Nat.ne_of_lt HX1.out.lt
  have hlt1 := HX1.out.lt
  clear ho hm1 hk1 HA
  unfold FaultV
  cases b with
  | true =>
    simp only [if_true]
    clear hi hz0 hz1 hz2
    go_wp2_with fail
    obtain ⟨W2, hW2⟩ : ∃ W2, w1.alloc (Obj.cells #[.int .i64 30, .int .u64 x] 71) = W2 := ⟨_, rfl⟩
    have HF2 : Hid (BoxF W2 w1.heap.size 30 x) := hW2 ▸ BoxF.new w1 30 x
    have HX2 : Hid (BoxF W2 w.heap.size 0 0) := hW2 ▸ HX1.out.below ((Below.refl _ _).alloc (Nat.le_refl _) _)
    have HB2 : Hid (Below w1.heap.size w1 W2) := hW2 ▸ (Below.refl _ _).alloc (Nat.le_refl _) _
    try rw [hW2]
    obtain ⟨x0, x1, f0, f1⟩ := HX2.out.cells
    obtain ⟨y0, y1, _, _⟩ := HF2.out.cells
    clear hW2
    go_region_held3 (fun w' => w'.cell? ⟨w1.heap.size, 0, none⟩ = some (.int .i64 30) ∧ w'.cell? ⟨w1.heap.size, 1, none⟩ = some (.int .u64 x)) (go_keep) (fail)
    go_wp2_with fail
    obtain ⟨d0, d1, _⟩ := BoxF.cells (w := ((W2.setCell ⟨w.heap.size, 0, none⟩ (.int .i64 30)).setCell ⟨w.heap.size, 1, none⟩ (.int .u64 x)).drew) (HX2.out.set 30 x)
    refine bodyPost_ret (v := .tuple #[.slice none 0 0, .agg #[.int .i64 30, .int .u64 x]]) (by simp [results, Tryz.results33, go_sem, d0, d1]) rfl ?_
    have hk2 : Keeps (fun j => j = w.heap.size) W2 (((W2.setCell ⟨w.heap.size, 0, none⟩ (.int .i64 30)).setCell ⟨w.heap.size, 1, none⟩ (.int .u64 x)).drew) := (Keeps.two W2 w.heap.size (.int .i64 30) (.int .u64 x)).drew
    exact ⟨x, true, _, HOff.out, rfl, (HM1.out.below HB2.out).keeps hk2 (fun j hj e => by have := HM.out.mine_lt hj; omega), (HK1.out.trans (Keeps.of_below (S := fun _ => False) HB2.out) (fun _ _ h => h.elim)).trans hk2 (fun i hi e => absurd e (by omega)), fun _ => rfl, fun h => by cases h⟩
  | false =>
    simp only [Bool.false_eq_true, if_false]
    have HXz : Hid (x = 0) := (HOff.out.2 rfl).1
    obtain rfl := HXz.out
    have HLow : Hid (0 < n → a + n ≤ 4294967296) := fun h0 => off_low HOff.out HM.out h0
    have hn40 : n ≤ 1099511627776 := by
      by_cases h0 : 0 < n
      · have := HLow.out h0
        omega
      · omega
    obtain ⟨x0, x1, f0, f1⟩ := HX1.out.cells
    go_wp2_with (at_make; refine wpList_make_full _ rfl _ _ 27 rfl (w1.heap.size + 1) 5 i (.int .u8 0) 1 Tryz.underlying27 hi hz0 hz1 _ _ _ _ n rfl rfl (by omega) (by omega) (by rw [hz2]; omega) (by simp only [maxLen]; omega) (by simp) ?_)
    intro w2 hown hgrow
    have HR2 : Hid (RowT w2 5 (w1.heap.size + 1) (List.replicate n 0)) := row_made hown
    have HB2 : Hid (Below w1.heap.size w1 w2) := ((Below.refl _ _).alloc (Nat.le_refl _) _).grown hgrow (by simp) (by simp)
    have HM2 : Hid (Mac w2 m B V T M rs ds L S X) := HM1.out.below HB2.out
    have HX2 : Hid (BoxF w2 w.heap.size 0 0) := HX1.out.below HB2.out
    clear hown hgrow x0 x1 f0 f1 hi hz0 hz1 hz2
    obtain ⟨_, _, _, c6, _⟩ := HM2.out.cells
    have HRd : Hid (Calls Tryz.prog 47 #[.map (some B), .int .u64 (a : Int), .slice (some ⟨w1.heap.size + 1, 0, none⟩) n n] w2 fun e w' => e = .returned (.tuple #[]) ∧ RowT w' 5 (w1.heap.size + 1) (bytesAt M a n) ∧ Keeps (fun j => j = w1.heap.size + 1) w2 w') :=
      read_all HM2.out.held HLow.out HR2.out (fun hf => by have := HM1.out.held.foot_lt hf; omega) (by unfold maxLen; omega)
    go_wp2_with (first | (go_at_call 47; refine HRd.out.mono ?_; rintro e w3 ⟨rfl, hr3, hk3⟩; have HR3 : Hid (RowT w3 5 (w1.heap.size + 1) (bytesAt M a n)) := hr3; have HK3 : Hid (Keeps (fun j => j = w1.heap.size + 1) w2 w3) := hk3; have HX3 : Hid (BoxF w3 w.heap.size 0 0) := HX2.out.keeps HK3.out (by omega); obtain ⟨x0, x1, f0, f1⟩ := HX3.out.cells; clear hr3 hk3 HRd c6))
    obtain ⟨d0, d1, _⟩ := (HX3.out.set 0 0).cells
    refine bodyPost_ret (v := .tuple #[.slice (some ⟨w1.heap.size + 1, 0, none⟩) n n, .agg #[.int .i64 0, .int .u64 0]]) (by simp [results, Tryz.results33, go_sem, d0, d1]) rfl ?_
    have hk2 := Keeps.two w3 w.heap.size (.int .i64 0) (.int .u64 0)
    have hr := HR3.out
    refine ⟨0, false, _, HOff.out, rfl, (HM2.out.keeps HK3.out (fun j hj e => ?_)).keeps hk2 (fun j hj e => ?_), ((HK1.out.trans (Keeps.of_below (S := fun _ => False) HB2.out) (fun _ _ h => h.elim)).trans HK3.out (fun i hi e => absurd e ?_)).trans hk2 (fun i hi e => absurd e (by omega)), fun h => (by cases h), fun _ => ⟨_, rfl, by omega, hn40, (hk2.block (w1.heap.size + 1) (Array.getElem?_eq_some_iff.1 hr).1 (by show ¬ _; omega)).trans hr⟩⟩
    · have := HM.out.mine_lt hj; omega
    · have := HM.out.mine_lt hj; omega
    · omega
set_option maxRecDepth 100000 in
set_option maxHeartbeats 4000000 in
theorem askCount_not {w : World} {m : Nat} {a n : Int} (hn : n < 0) :
    Calls Tryz.prog 60 #[.pointer (some ⟨m, 0, none⟩), .int .u64 a, .int .i64 n] w fun e w' => e = .returned (FaultV 1 a) ∧ Below w.heap.size w w' := by
  go_enter Tryz.func60, Tryz.ntmps60
  go_wp2_with fail
  obtain ⟨d0, d1, _⟩ := (BoxF.new w 1 a).cells
  refine bodyPost_ret (v := .agg #[.int .i64 1, .int .u64 a]) (by simp [results, Tryz.results60, go_sem, d0, d1]) rfl ?_
  exact ⟨rfl, (Below.refl _ _).alloc (Nat.le_refl _) _⟩
set_option maxRecDepth 100000 in
set_option maxHeartbeats 4000000 in
theorem peekM_nw {w : World} {m : Nat} {a n : Int} (hn : n ≠ 1 ∧ n ≠ 2 ∧ n ≠ 4 ∧ n ≠ 8) : Calls Tryz.prog 21 #[.pointer (some ⟨m, 0, none⟩), .int .u64 a, .int .i64 n] w fun e w' => e = .returned (.tuple #[.int .u64 0, FaultV 31 a]) ∧ Below w.heap.size w w' := by
  have HA : Hid (∀ W, Calls Tryz.prog 46 #[.pointer (some ⟨m, 0, none⟩), .int .u64 a, .int .i64 n] W fun e w' => e = .returned (FaultV 31 a) ∧ Below W.heap.size W w') := fun W => askWidth_not hn
  clear hn
  unfold FaultV at HA ⊢
  go_enter Tryz.func21, Tryz.ntmps21
  go_wp2_with fail
  refine (HA.out _).mono ?_
  rintro e w1 ⟨rfl, hb1⟩
  have HX1 : Hid (BoxF w1 w.heap.size 0 0) := (BoxF.new w 0 0).below hb1
  have HB1 : Hid (Below w.heap.size w w1) := ((Below.refl _ _).alloc (Nat.le_refl _) _).trans (hb1.mono (by simp))
  have hne : w.heap.size ≠ w1.heap.size := Nat.ne_of_lt HX1.out.lt
  have hlt1 := HX1.out.lt
  clear hb1 HA
  go_wp2_with fail
  obtain ⟨W2, hW2⟩ : ∃ W2, w1.alloc (Obj.cells #[.int .i64 31, .int .u64 a] 71) = W2 := ⟨_, rfl⟩
  have HF2 : Hid (BoxF W2 w1.heap.size 31 a) := hW2 ▸ BoxF.new w1 31 a
  have HX2 : Hid (BoxF W2 w.heap.size 0 0) := hW2 ▸ HX1.out.below ((Below.refl _ _).alloc (Nat.le_refl _) _)
  have HB2 : Hid (Below w1.heap.size w1 W2) := hW2 ▸ (Below.refl _ _).alloc (Nat.le_refl _) _
  rw [hW2]
  obtain ⟨x0, x1, f0, f1⟩ := HX2.out.cells
  obtain ⟨y0, y1, _, _⟩ := HF2.out.cells
  clear hW2
  go_region_held3 (fun w' => w'.cell? ⟨w1.heap.size, 0, none⟩ = some (.int .i64 31) ∧ w'.cell? ⟨w1.heap.size, 1, none⟩ = some (.int .u64 a)) (go_keep) (fail)
  go_wp2_with fail
  obtain ⟨d0, d1, _⟩ := BoxF.cells (w := ((W2.setCell ⟨w.heap.size, 0, none⟩ (.int .i64 31)).setCell ⟨w.heap.size, 1, none⟩ (.int .u64 a)).drew) (HX2.out.set 31 a)
  refine bodyPost_ret (v := .tuple #[.int .u64 0, .agg #[.int .i64 31, .int .u64 a]]) (by simp [results, Tryz.results21, go_sem, d0, d1]) rfl ?_
  exact ⟨rfl, (HB1.out.trans (HB2.out.mono HB1.out.size)).trans (Keeps.below (Keeps.two W2 w.heap.size (.int .i64 31) (.int .u64 a)).drew (Nat.le_trans HB1.out.size HB2.out.size) (fun i _ e => by omega))⟩
set_option maxRecDepth 100000 in
set_option maxHeartbeats 4000000 in
theorem storeM_nw {w : World} {m : Nat} {a n z : Int} (hn : n ≠ 1 ∧ n ≠ 2 ∧ n ≠ 4 ∧ n ≠ 8) : Calls Tryz.prog 23 #[.pointer (some ⟨m, 0, none⟩), .int .u64 a, .int .i64 n, .int .u64 z] w fun e w' => e = .returned (FaultV 31 a) ∧ Below w.heap.size w w' := by
  have HA : Hid (∀ W, Calls Tryz.prog 46 #[.pointer (some ⟨m, 0, none⟩), .int .u64 a, .int .i64 n] W fun e w' => e = .returned (FaultV 31 a) ∧ Below W.heap.size W w') := fun W => askWidth_not hn
  clear hn
  unfold FaultV at HA ⊢
  go_enter Tryz.func23, Tryz.ntmps23
  go_wp2_with fail
  refine (HA.out _).mono ?_
  rintro e w1 ⟨rfl, hb1⟩
  have HX1 : Hid (BoxF w1 w.heap.size 0 0) := (BoxF.new w 0 0).below hb1
  have HB1 : Hid (Below w.heap.size w w1) := ((Below.refl _ _).alloc (Nat.le_refl _) _).trans (hb1.mono (by simp))
  have hne : w.heap.size ≠ w1.heap.size := Nat.ne_of_lt HX1.out.lt
  have hlt1 := HX1.out.lt
  clear hb1 HA
  obtain ⟨x0, x1, f0, f1⟩ := HX1.out.cells
  have y0 := fun X => (HX1.out.below ((Below.refl _ _).alloc (Nat.le_refl _) X)).cells.1
  have y1 := fun X => (HX1.out.below ((Below.refl _ _).alloc (Nat.le_refl _) X)).cells.2.1
  have y2 := fun X => (HX1.out.below ((Below.refl _ _).alloc (Nat.le_refl _) X)).cells.2.2.1
  have y3 := fun X => (HX1.out.below ((Below.refl _ _).alloc (Nat.le_refl _) X)).cells.2.2.2
  go_wp2_with fail
  have hbx := (HX1.out.set 31 a).below ((Below.refl _ _).alloc (Nat.le_refl _) (Obj.cells #[.int .i64 31, .int .u64 a] 71))
  obtain ⟨d0, d1, _⟩ := hbx.cells
  refine bodyPost_ret (v := .agg #[.int .i64 31, .int .u64 a]) (by simp [results, Tryz.results23, go_sem, d0, d1]) rfl ?_
  have hk2 : Keeps (fun j => j = w.heap.size) w1 (((w1.setCell ⟨w.heap.size, 0, none⟩ (.int .i64 31)).setCell ⟨w.heap.size, 1, none⟩ (.int .u64 a)).alloc (Obj.cells #[.int .i64 31, .int .u64 a] 71)) := (Keeps.two w1 w.heap.size (.int .i64 31) (.int .u64 a)).trans (Keeps.alloc (S := fun _ => False) _ _) (fun _ _ h => h.elim)
  exact ⟨rfl, HB1.out.trans (hk2.below HB1.out.size (fun i _ e => by omega))⟩
set_option maxRecDepth 100000 in
set_option maxHeartbeats 4000000 in
theorem readM_neg {w : World} {m : Nat} {a n : Int} (hn : n < 0) : Calls Tryz.prog 33 #[.pointer (some ⟨m, 0, none⟩), .int .u64 a, .int .i64 n] w fun e w' => e = .returned (.tuple #[.slice none 0 0, FaultV 1 a]) ∧ Below w.heap.size w w' := by
  have HA : Hid (∀ W, Calls Tryz.prog 60 #[.pointer (some ⟨m, 0, none⟩), .int .u64 a, .int .i64 n] W fun e w' => e = .returned (FaultV 1 a) ∧ Below W.heap.size W w') := fun W => askCount_not hn
  clear hn
  unfold FaultV at HA ⊢
  go_enter Tryz.func33, Tryz.ntmps33
  go_wp2_with fail
  refine (HA.out _).mono ?_
  rintro e w1 ⟨rfl, hb1⟩
  have HX1 : Hid (BoxF w1 w.heap.size 0 0) := (BoxF.new w 0 0).below hb1
  have HB1 : Hid (Below w.heap.size w w1) := ((Below.refl _ _).alloc (Nat.le_refl _) _).trans (hb1.mono (by simp))
  have hne : w.heap.size ≠ w1.heap.size := Nat.ne_of_lt HX1.out.lt
  have hlt1 := HX1.out.lt
  clear hb1 HA
  go_wp2_with fail
  obtain ⟨W2, hW2⟩ : ∃ W2, w1.alloc (Obj.cells #[.int .i64 1, .int .u64 a] 71) = W2 := ⟨_, rfl⟩
  have HF2 : Hid (BoxF W2 w1.heap.size 1 a) := hW2 ▸ BoxF.new w1 1 a
  have HX2 : Hid (BoxF W2 w.heap.size 0 0) := hW2 ▸ HX1.out.below ((Below.refl _ _).alloc (Nat.le_refl _) _)
  have HB2 : Hid (Below w1.heap.size w1 W2) := hW2 ▸ (Below.refl _ _).alloc (Nat.le_refl _) _
  rw [hW2]
  obtain ⟨x0, x1, f0, f1⟩ := HX2.out.cells
  obtain ⟨y0, y1, _, _⟩ := HF2.out.cells
  clear hW2
  go_region_held3 (fun w' => w'.cell? ⟨w1.heap.size, 0, none⟩ = some (.int .i64 1) ∧ w'.cell? ⟨w1.heap.size, 1, none⟩ = some (.int .u64 a)) (go_keep) (fail)
  go_wp2_with fail
  obtain ⟨d0, d1, _⟩ := BoxF.cells (w := ((W2.setCell ⟨w.heap.size, 0, none⟩ (.int .i64 1)).setCell ⟨w.heap.size, 1, none⟩ (.int .u64 a)).drew) (HX2.out.set 1 a)
  refine bodyPost_ret (v := .tuple #[.slice none 0 0, .agg #[.int .i64 1, .int .u64 a]]) (by simp [results, Tryz.results33, go_sem, d0, d1]) rfl ?_
  exact ⟨rfl, (HB1.out.trans (HB2.out.mono HB1.out.size)).trans (Keeps.below (Keeps.two W2 w.heap.size (.int .i64 1) (.int .u64 a)).drew (Nat.le_trans HB1.out.size HB2.out.size) (fun i _ e => by omega))⟩
set_option maxRecDepth 100000 in
set_option maxHeartbeats 4000000 in
theorem fillM_neg {w : World} {m : Nat} {a n z : Int} (hn : n < 0) : Calls Tryz.prog 27 #[.pointer (some ⟨m, 0, none⟩), .int .u64 a, .int .i64 n, .int .u8 z] w fun e w' => e = .returned (FaultV 1 a) ∧ Below w.heap.size w w' := by
  have HA : Hid (∀ W, Calls Tryz.prog 60 #[.pointer (some ⟨m, 0, none⟩), .int .u64 a, .int .i64 n] W fun e w' => e = .returned (FaultV 1 a) ∧ Below W.heap.size W w') := fun W => askCount_not hn
  clear hn
  unfold FaultV at HA ⊢
  go_enter Tryz.func27, Tryz.ntmps27
  go_wp2_with fail
  refine (HA.out _).mono ?_
  rintro e w1 ⟨rfl, hb1⟩
  have HX1 : Hid (BoxF w1 w.heap.size 0 0) := (BoxF.new w 0 0).below hb1
  have HB1 : Hid (Below w.heap.size w w1) := ((Below.refl _ _).alloc (Nat.le_refl _) _).trans (hb1.mono (by simp))
  have hne : w.heap.size ≠ w1.heap.size := Nat.ne_of_lt HX1.out.lt
  have hlt1 := HX1.out.lt
  clear hb1 HA
  obtain ⟨x0, x1, f0, f1⟩ := HX1.out.cells
  have y0 := fun X => (HX1.out.below ((Below.refl _ _).alloc (Nat.le_refl _) X)).cells.1
  have y1 := fun X => (HX1.out.below ((Below.refl _ _).alloc (Nat.le_refl _) X)).cells.2.1
  have y2 := fun X => (HX1.out.below ((Below.refl _ _).alloc (Nat.le_refl _) X)).cells.2.2.1
  have y3 := fun X => (HX1.out.below ((Below.refl _ _).alloc (Nat.le_refl _) X)).cells.2.2.2
  go_wp2_with fail
  have hbx := (HX1.out.set 1 a).below ((Below.refl _ _).alloc (Nat.le_refl _) (Obj.cells #[.int .i64 1, .int .u64 a] 71))
  obtain ⟨d0, d1, _⟩ := hbx.cells
  refine bodyPost_ret (v := .agg #[.int .i64 1, .int .u64 a]) (by simp [results, Tryz.results27, go_sem, d0, d1]) rfl ?_
  have hk2 : Keeps (fun j => j = w.heap.size) w1 (((w1.setCell ⟨w.heap.size, 0, none⟩ (.int .i64 1)).setCell ⟨w.heap.size, 1, none⟩ (.int .u64 a)).alloc (Obj.cells #[.int .i64 1, .int .u64 a] 71)) := (Keeps.two w1 w.heap.size (.int .i64 1) (.int .u64 a)).trans (Keeps.alloc (S := fun _ => False) _ _) (fun _ _ h => h.elim)
  exact ⟨rfl, HB1.out.trans (hk2.below HB1.out.size (fun i _ e => by omega))⟩
set_option maxRecDepth 100000 in
set_option maxHeartbeats 4000000 in
theorem loadM_nw {w : World} {m : Nat} {a n : Int} (hn : n ≠ 1 ∧ n ≠ 2 ∧ n ≠ 4 ∧ n ≠ 8) : Calls Tryz.prog 18 #[.pointer (some ⟨m, 0, none⟩), .int .u64 a, .int .i64 n] w fun e w' => e = .returned (.tuple #[.int .u64 0, FaultV 31 a]) ∧ Below w.heap.size w w' := by
  have HA : Hid (∀ W, Calls Tryz.prog 21 #[.pointer (some ⟨m, 0, none⟩), .int .u64 a, .int .i64 n] W fun e w' => e = .returned (.tuple #[.int .u64 0, FaultV 31 a]) ∧ Below W.heap.size W w') := fun W => peekM_nw hn
  clear hn
  unfold FaultV at HA ⊢
  go_enter Tryz.func18, Tryz.ntmps18
  go_wp2_with fail
  refine (HA.out _).mono ?_
  rintro e w1 ⟨rfl, hb1⟩
  have HX1 : Hid (BoxF w1 w.heap.size 0 0) := (BoxF.new w 0 0).below hb1
  have HB1 : Hid (Below w.heap.size w w1) := ((Below.refl _ _).alloc (Nat.le_refl _) _).trans (hb1.mono (by simp))
  have hne : w.heap.size ≠ w1.heap.size := Nat.ne_of_lt HX1.out.lt
  have hlt1 := HX1.out.lt
  clear hb1 HA
  go_wp2_with fail
  obtain ⟨W2, hW2⟩ : ∃ W2, w1.alloc (Obj.cells #[.int .i64 31, .int .u64 a] 71) = W2 := ⟨_, rfl⟩
  have HF2 : Hid (BoxF W2 w1.heap.size 31 a) := hW2 ▸ BoxF.new w1 31 a
  have HX2 : Hid (BoxF W2 w.heap.size 0 0) := hW2 ▸ HX1.out.below ((Below.refl _ _).alloc (Nat.le_refl _) _)
  have HB2 : Hid (Below w1.heap.size w1 W2) := hW2 ▸ (Below.refl _ _).alloc (Nat.le_refl _) _
  rw [hW2]
  obtain ⟨x0, x1, f0, f1⟩ := HX2.out.cells
  obtain ⟨y0, y1, _, _⟩ := HF2.out.cells
  clear hW2
  go_region_held3 (fun w' => w'.cell? ⟨w1.heap.size, 0, none⟩ = some (.int .i64 31) ∧ w'.cell? ⟨w1.heap.size, 1, none⟩ = some (.int .u64 a)) (go_keep) (fail)
  go_wp2_with fail
  obtain ⟨d0, d1, _⟩ := BoxF.cells (w := ((W2.setCell ⟨w.heap.size, 0, none⟩ (.int .i64 31)).setCell ⟨w.heap.size, 1, none⟩ (.int .u64 a)).drew) (HX2.out.set 31 a)
  refine bodyPost_ret (v := .tuple #[.int .u64 0, .agg #[.int .i64 31, .int .u64 a]]) (by simp [results, Tryz.results18, go_sem, d0, d1]) rfl ?_
  exact ⟨rfl, (HB1.out.trans (HB2.out.mono HB1.out.size)).trans (Keeps.below (Keeps.two W2 w.heap.size (.int .i64 31) (.int .u64 a)).drew (Nat.le_trans HB1.out.size HB2.out.size) (fun i _ e => by omega))⟩
end Go.Proofs.YtddgoncbdlhhhaaGreat
/- BusPlays: a row of machines, each beside the document's own; what was handed out. Own work. -/
namespace Go.Proofs.YtddgoncbdlhhhaaGreat
open Go.RowKit Go.Maps Go.Proofs.YtddgoncbdlhhhaaGreat.Sp Wk
/-- what a machine holds and what its meter tells -/
structure Ps where
  M : Nat → Nat
  L : Nat
  S : Nat
  X : Nat
/-- a machine of bus: where it lies -/
structure BSt where
  m : Nat
  B : Nat
  V : Value × Value × Value
  T : Nat → Option Nat
  p : Ps
/-- a machine of the document's own: where it lies -/
structure VSt where
  v : Nat
  base : Nat
  vp : Value
  ps : List (Int × Nat)
  p : Ps
/-- the page is on the bus -/
def Og (LL : List Sp) (x : Int) : Prop := ∀ i : Nat, i < 4096 → On LL (x * 4096 + (i : Int))
structure Bs (w : World) (b0 bb : Nat) (rs ds : List Sp) (col : Nat → Nat) (i : Nat) (s : BSt) : Prop where
  mac : Mac w s.m s.B s.V s.T s.p.M rs ds s.p.L s.p.S s.p.X
  own : ∀ j, j = s.m ∨ Foot s.B s.T j → col j = 2 * i + 10 ∧ b0 ≤ j
  rows : ∀ v, v = s.V.1 ∨ v = s.V.2.1 ∨ v = s.V.2.2 → ∀ j, v.ownBlock = some j → (col j = 0 ∧ j < bb) ∨ ∃ cur, w.heap[j]? = some (.cells cur 55 (0, 0))
structure Vs (w : World) (b0 : Nat) (vr vd : Value) (rs ds : List Sp) (col : Nat → Nat) (i : Nat) (s : VSt) : Prop where
  rm : RM w s.base s.v vr vd s.vp s.ps s.p.M s.p.L s.p.S s.p.X
  own : ∀ j, Fo s.v s.vp s.ps j → col j = 2 * i + 11
  low : b0 ≤ s.base ∧ s.base ≤ w.heap.size
  pgs : ∀ x ∈ s.ps, Og (rs ++ ds) x.1
/-- blocks that the machines' calls may write -/
def Zt (w : World) (j : Nat) : Prop := ∀ c t fr, w.heap[j]? = some (.cells c t fr) → t = 110 ∨ t = 168 ∨ t = 68 ∨ t = 89 ∨ t = 5
/-- tags of blocks that nobody writes but who has them -/
def Fx (t : TypeId) : Prop := t ≠ 110 ∧ t ≠ 168 ∧ t ≠ 68 ∧ t ≠ 89 ∧ t ≠ 5 ∧ t ≠ 48 ∧ t ≠ 27 ∧ t ≠ 22 ∧ t ≠ 35
/-- such blocks are kept -/
def Bt (w w' : World) : Prop := w.heap.size ≤ w'.heap.size ∧ ∀ (g : Nat) (c : Array Value) (t : TypeId) (fr : Nat × Nat), w.heap[g]? = some (.cells c t fr) → Fx t → w'.heap[g]? = some (.cells c t fr)
theorem Bt.refl (w : World) : Bt w w := ⟨Nat.le_refl _, fun _ _ _ _ h _ => h⟩
theorem Bt.trans {a b c : World} (h : Bt a b) (k : Bt b c) : Bt a c := ⟨Nat.le_trans h.1 k.1, fun g c t fr hc ht => k.2 g c t fr (h.2 g c t fr hc ht) ht⟩
theorem Bt.below {w w' : World} (h : Below w.heap.size w w') : Bt w w' := ⟨h.size, fun g _ _ _ hc _ => (h.block g (Array.getElem?_eq_some_iff.1 hc).1).trans hc⟩
theorem Bt.of {Z : Nat → Prop} {w w' : World} (k : Keeps Z w w') (hz : ∀ j, j < w.heap.size → Z j → Zt w j) : Bt w w' := ⟨k.size, fun g c t fr hc ht => by
  have hl := (Array.getElem?_eq_some_iff.1 hc).1
  refine (k.block g hl (fun hg => ?_)).trans hc
  obtain ⟨h1, h2, h3, h4, h5, _⟩ := ht
  rcases hz g hl hg c t fr hc with h | h | h | h | h
  · exact h1 h
  · exact h2 h
  · exact h3 h
  · exact h4 h
  · exact h5 h⟩
theorem held_tag {w : World} {B : Nat} {T : Nat → Option Nat} {M : Nat → Nat} (h : Held w B T M) {j : Nat} (hj : Foot B T j) : Zt w j := fun c t fr hc => by
  rcases hj with rfl | ⟨k, hk⟩
  · exact absurd hc h.1.no_row
  · have e := Option.some.inj ((show w.heap[j]? = _ from (h.2.1 k j hk).1).symm.trans hc)
    exact .inr (.inl (Obj.cells.inj e).2.1.symm)
theorem Bs.zt {w : World} {b0 bb : Nat} {rs ds : List Sp} {col : Nat → Nat} {i : Nat} {s : BSt} (h : Bs w b0 bb rs ds col i s) {j : Nat} (hj : j = s.m ∨ Foot s.B s.T j) : Zt w j := by
  rcases hj with rfl | hj
  · obtain ⟨G, h0, _⟩ := h.mac
    intro c t fr hc
    rw [h0] at hc
    cases hc
    exact .inl rfl
  · exact held_tag h.mac.held hj
theorem Vs.zt {w : World} {b0 : Nat} {vr vd : Value} {rs ds : List Sp} {col : Nat → Nat} {i : Nat} {s : VSt} (h : Vs w b0 vr vd rs ds col i s) {j : Nat} (hj : Fo s.v s.vp s.ps j) : Zt w j := by
  obtain ⟨_, c', t', fr', hc', ht⟩ := h.rm.fo hj
  intro c t fr hc
  rw [hc'] at hc
  cases hc
  rcases ht with h | h | h
  · exact .inr (.inr (.inl h))
  · exact .inr (.inr (.inr (.inl h)))
  · exact .inr (.inr (.inr (.inr h)))
/-- colours: what is new has the colour c -/
def rc (col : Nat → Nat) (n c : Nat) : Nat → Nat := fun j => if j < n then col j else c
theorem rc_old {col : Nat → Nat} {n c j : Nat} (h : j < n) : rc col n c j = col j := if_pos h
theorem rc_new {col : Nat → Nat} {n c j : Nat} (h : n ≤ j) : rc col n c j = c := if_neg (by omega)
theorem Mac.keepsW {Z : Nat → Prop} {w w' : World} {b0 bb : Nat} {rs ds : List Sp} {col : Nat → Nat} {i : Nat} {s : BSt} (h : Bs w b0 bb rs ds col i s) (k : Keeps Z w w') (h1 : ∀ j, j = s.m ∨ Foot s.B s.T j → ¬ Z j) (h2 : ∀ j, j < w.heap.size → (col j = 0 ∧ j < bb) → ¬ Z j) (h3 : ∀ j cur, w.heap[j]? = some (.cells cur 55 (0, 0)) → ¬ Z j) {col' : Nat → Nat} (hcol : ∀ j, j < w.heap.size → col' j = col j) : Bs w' b0 bb rs ds col' i s := by
  have hr : ∀ v, v = s.V.1 ∨ v = s.V.2.1 ∨ v = s.V.2.2 → ∀ j, v.ownBlock = some j → ¬ Z j := fun v hv j e => by
    have hl := h.mac.mine_lt (.inr (.inr ⟨v, hv, e⟩))
    rcases h.rows v hv j e with q | ⟨cur, q⟩
    · exact h2 j hl q
    · exact h3 j cur q
  refine ⟨h.mac.keeps k (fun j hj => ?_), fun j hj => ?_, fun v hv j e => ?_⟩
  · rcases hj with hj | hj | ⟨v, hv, e⟩
    · exact h1 j (.inl hj)
    · exact h1 j (.inr hj)
    · exact hr v hv j e
  · rw [hcol j (h.mac.mine_lt (hj.elim .inl (fun q => .inr (.inl q))))]
    exact h.own j hj
  · have hl := h.mac.mine_lt (.inr (.inr ⟨v, hv, e⟩))
    rw [hcol j hl]
    exact (h.rows v hv j e).imp id (fun ⟨cur, q⟩ => ⟨cur, (k.block j hl (hr v hv j e)).trans q⟩)
theorem Vs.fo_lt {w : World} {b0 : Nat} {vr vd : Value} {rs ds : List Sp} {col : Nat → Nat} {i : Nat} {s : VSt} (h : Vs w b0 vr vd rs ds col i s) {j : Nat} (hj : Fo s.v s.vp s.ps j) : j < w.heap.size := (h.rm.fo hj).lt
theorem Vs.keepsW {Z : Nat → Prop} {w w' : World} {b0 : Nat} {vr vd : Value} {rs ds : List Sp} {col : Nat → Nat} {i : Nat} {s : VSt} (h : Vs w b0 vr vd rs ds col i s) (k : Keeps Z w w') (h1 : ∀ j, Fo s.v s.vp s.ps j → ¬ Z j) {col' : Nat → Nat} (hcol : ∀ j, j < w.heap.size → col' j = col j) : Vs w' b0 vr vd rs ds col' i s :=
  ⟨h.rm.keepsF k h1, fun j hj => by rw [hcol j (h.fo_lt hj)]; exact h.own j hj, ⟨h.low.1, Nat.le_trans h.low.2 k.size⟩, h.pgs⟩
theorem Bk.keepsW {pfA pfB pfC pfD pfE : Value} {Z : Nat → Prop} {w w' : World} {base kb : Nat} {lv wv : Value} {held : Int} {E : List Ent} (h : Bk pfA pfB pfC pfD pfE w base kb lv wv held E) (k : Keeps Z w w') (h0 : ¬ Z kb) (h1 : ∀ j cur, w.heap[j]? = some (.cells cur 27 (0, 0)) → ¬ Z j) (h2 : ∀ j ∈ blks E, ¬ Z j) : Bk pfA pfB pfC pfD pfE w' base kb lv wv held E :=
  ⟨(k.block kb h.lt h0).trans h.blk, h.lrow.keeps k (fun j e => by obtain ⟨c, hc⟩ := h.lrow.tag j e; exact h1 j c hc), h.wrow.keeps k (fun j e => by obtain ⟨c, hc⟩ := h.wrow.tag j e; exact h1 j c hc), h.ne, fun x hx => ⟨(h.ents x hx).l.keeps k (fun j e => h2 j (mem_blks.2 ⟨x, hx, .inl e⟩)), (h.ents x hx).w.keeps k (fun j e => h2 j (mem_blks.2 ⟨x, hx, .inr e⟩)), (h.ents x hx).sm⟩, h.nodup⟩
theorem BkG.keepsW {pfA pfB pfC pfD pfE : Value} {Z : Nat → Prop} {w w' : World} {base kb : Nat} {lv wv : Value} {held : Int} {F : List EntG} (h : BkG pfA pfB pfC pfD pfE w base kb lv wv held F) (k : Keeps Z w w') (h0 : ¬ Z kb) (h1 : ∀ j cur, w.heap[j]? = some (.cells cur 22 (0, 0)) → ¬ Z j) (h2 : ∀ j ∈ blksG F, ¬ Z j) : BkG pfA pfB pfC pfD pfE w' base kb lv wv held F :=
  ⟨(k.block kb h.lt h0).trans h.blk, h.lrow.keeps k (fun j e => by obtain ⟨c, hc⟩ := h.lrow.tag j e; exact h1 j c hc), h.wrow.keeps k (fun j e => by obtain ⟨c, hc⟩ := h.wrow.tag j e; exact h1 j c hc), h.ne, fun x hx => ⟨(h.ents x hx).l.keeps k (fun j e => h2 j (mem_blksG.2 ⟨x, hx, .inl e⟩)), (h.ents x hx).w.keeps k (fun j e => h2 j (mem_blksG.2 ⟨x, hx, .inr e⟩)), (h.ents x hx).sm⟩, h.nodup⟩
theorem BkG.tags {pfA pfB pfC pfD pfE : Value} {w : World} {base kb : Nat} {lv wv : Value} {held : Int} {F : List EntG} (h : BkG pfA pfB pfC pfD pfE w base kb lv wv held F) : ∀ j ∈ blksG F, ∃ cur, w.heap[j]? = some (.cells cur 55 (0, 0)) := fun j hj => by
  obtain ⟨x, hx, e | e⟩ := mem_blksG.1 hj
  · exact (h.ents x hx).l.tag j e
  · exact (h.ents x hx).w.tag j e
theorem Bk.tags {pfA pfB pfC pfD pfE : Value} {w : World} {base kb : Nat} {lv wv : Value} {held : Int} {E : List Ent} (h : Bk pfA pfB pfC pfD pfE w base kb lv wv held E) : ∀ j ∈ blks E, ∃ cur, w.heap[j]? = some (.cells cur 5 (0, 0)) := fun j hj => by
  obtain ⟨x, hx, e | e⟩ := mem_blks.1 hj
  · exact (h.ents x hx).l.tagB j e
  · exact (h.ents x hx).w.tagB j e
/-- all that there is: the seats, the machines, the books, what was handed out and is not kept yet -/
structure AlI (w0 w : World) (bb R : Nat) (vr vd : Value) (rs ds : List Sp) (col : Nat → Nat) (gs : List (Nat × Nat × Nat)) (bs : List BSt) (vs : List VSt) (H : List (Value × List Nat)) (G : List (Value × List Sp)) (sv lv wv : Value) (hd : Int) (lr wr : Value) (hd2 : Int) (E : List Ent) (F : List EntG) : Prop where
  below : Below w0.heap.size w0 w
  bbl : w0.heap.size ≤ bb ∧ bb ≤ R
  sg : ∀ (i g m v : Nat), gs[i]? = some (g, m, v) → w.heap[g]? = some (.cells #[.pointer (some ⟨m, 0, none⟩), .pointer (some ⟨v, 0, none⟩)] 39 (0, 0))
  bus : ∀ i b, bs[i]? = some b → Bs w w0.heap.size bb rs ds col i b
  rf : ∀ i v, vs[i]? = some v → Vs w w0.heap.size vr vd rs ds col i v
  lb : gs.map (fun x => x.2.1) = bs.map BSt.m
  lf : gs.map (fun x => x.2.2) = vs.map VSt.v
  bk : Bk sv lr wr (.int .i64 hd2) (.bool false) w bb R lv wv hd E
  bg : BkG sv lv wv (.int .i64 hd) (.bool false) w bb R lr wr hd2 F
  e4 : E.length ≤ 4000 ∧ F.length ≤ 4000
  ce : ∀ k ∈ blks E, col k = 1
  srow : RowV w bb 35 sv (gs.map fun x => .pointer (some ⟨x.1, 0, none⟩))
  hh : ∀ x ∈ H, Own w bb x.1 x.2 ∧ (∀ z ∈ x.2, z < 256) ∧ x.2.length ≤ 1099511627776 ∧ ∀ k, x.1.ownBlock = some k → col k = 1 ∧ k ∉ blks E
  gg : ∀ x ∈ G, OwnRg w bb x.1 x.2 ∧ x.2.length ≤ 64 ∧ ∀ k, x.1.ownBlock = some k → k ∉ blksG F
  gn : G.Pairwise fun x y => ∀ k, x.1.ownBlock = some k → y.1.ownBlock ≠ some k
section
variable {w0 w w' : World} {bb R : Nat} {vr vd : Value} {rs ds : List Sp} {col : Nat → Nat} {gs : List (Nat × Nat × Nat)} {bs : List BSt} {vs : List VSt} {H : List (Value × List Nat)} {G : List (Value × List Sp)} {sv lv wv : Value} {hd : Int} {lr wr : Value} {hd2 : Int} {E : List Ent} {F : List EntG}
theorem AlI.R_lt (h : AlI w0 w bb R vr vd rs ds col gs bs vs H G sv lv wv hd lr wr hd2 E F) : R < w.heap.size := h.bk.lt
theorem AlI.b0 (h : AlI w0 w bb R vr vd rs ds col gs bs vs H G sv lv wv hd lr wr hd2 E F) : w0.heap.size ≤ w.heap.size := h.below.size
/-- a call of a machine: all but that machine is as it was -/
theorem AlI.frame {Z : Nat → Prop} {c : Nat} (h : AlI w0 w bb R vr vd rs ds col gs bs vs H G sv lv wv hd lr wr hd2 E F) (k : Keeps Z w w') (hz : ∀ j, j < w.heap.size → Z j → Zt w j) (hc : ∀ j, j < w.heap.size → Z j → col j = c) (hc0 : 10 ≤ c) (hb0 : ∀ j, Z j → w0.heap.size ≤ j) {col' : Nat → Nat} (hcol : ∀ j, j < w.heap.size → col' j = col j) :
    Below w0.heap.size w0 w' ∧ (∀ (i g m v : Nat), gs[i]? = some (g, m, v) → w'.heap[g]? = some (.cells #[.pointer (some ⟨m, 0, none⟩), .pointer (some ⟨v, 0, none⟩)] 39 (0, 0))) ∧ (∀ i b, bs[i]? = some b → 2 * i + 10 ≠ c → Bs w' w0.heap.size bb rs ds col' i b) ∧ (∀ i v, vs[i]? = some v → 2 * i + 11 ≠ c → Vs w' w0.heap.size vr vd rs ds col' i v) ∧ Bk sv lr wr (.int .i64 hd2) (.bool false) w' bb R lv wv hd E ∧ BkG sv lv wv (.int .i64 hd) (.bool false) w' bb R lr wr hd2 F ∧ (∀ k ∈ blks E, col' k = 1) ∧ RowV w' bb 35 sv (gs.map fun x => .pointer (some ⟨x.1, 0, none⟩)) ∧ (∀ x ∈ H, Own w' bb x.1 x.2 ∧ (∀ z ∈ x.2, z < 256) ∧ x.2.length ≤ 1099511627776 ∧ ∀ k, x.1.ownBlock = some k → col' k = 1 ∧ k ∉ blks E) ∧ (∀ x ∈ G, OwnRg w' bb x.1 x.2 ∧ x.2.length ≤ 64 ∧ ∀ k, x.1.ownBlock = some k → k ∉ blksG F) := by
  have tg : ∀ (j : Nat) (cur : Array Value) (t : TypeId), w.heap[j]? = some (.cells cur t (0, 0)) → t ≠ 110 → t ≠ 168 → t ≠ 68 → t ≠ 89 → t ≠ 5 → ¬ Z j := fun j cur t hj h1 h2 h3 h4 h5 hZ => by
    rcases hz j (Array.getElem?_eq_some_iff.1 hj).1 hZ _ _ _ hj with q | q | q | q | q
    · exact h1 q
    · exact h2 q
    · exact h3 q
    · exact h4 q
    · exact h5 q
  have hR : ¬ Z R := tg R _ _ h.bk.blk (by decide) (by decide) (by decide) (by decide) (by decide)
  refine ⟨h.below.trans (k.below h.below.size (fun j _ hZ => hb0 j hZ)), fun i g m v e => ?_, fun i b e hne => ?_, fun i v e hne => ?_, h.bk.keepsW k hR (fun j cur hj => tg j cur _ hj (by decide) (by decide) (by decide) (by decide) (by decide)) (fun j hj hZ => ?_), h.bg.keepsW k hR (fun j cur hj => tg j cur _ hj (by decide) (by decide) (by decide) (by decide) (by decide)) (fun j hj => ?_), fun j hj => ?_, h.srow.keeps k (fun j e => ?_), fun x hx => ?_, fun x hx => ?_⟩
  · have := h.sg i g m v e
    exact (k.block g (Array.getElem?_eq_some_iff.1 this).1 (tg g _ _ this (by decide) (by decide) (by decide) (by decide) (by decide))).trans this
  · refine Mac.keepsW (h.bus i b e) k (fun j hj hZ => ?_) (fun j hl q hZ => ?_) (fun j cur hj => tg j cur _ hj (by decide) (by decide) (by decide) (by decide) (by decide)) hcol
    · have := hc j ((h.bus i b e).mac.mine_lt (hj.elim .inl (fun q => .inr (.inl q)))) hZ
      rw [((h.bus i b e).own j hj).1] at this
      exact hne this
    · have := hc j hl hZ
      omega
  · refine (h.rf i v e).keepsW k (fun j hj hZ => ?_) hcol
    have := hc j ((h.rf i v e).fo_lt hj) hZ
    rw [(h.rf i v e).own j hj] at this
    exact hne this
  · have := hc j (blks_lt h.bk.ents j hj) hZ
    rw [h.ce j hj] at this
    omega
  · obtain ⟨cur, q⟩ := h.bg.tags j hj
    exact tg j cur _ q (by decide) (by decide) (by decide) (by decide) (by decide)
  · rw [hcol j (blks_lt h.bk.ents j hj)]
    exact h.ce j hj
  · obtain ⟨cur, q⟩ := h.srow.tag j e
    exact tg j cur _ q (by decide) (by decide) (by decide) (by decide) (by decide)
  · obtain ⟨h1, h2, h3, h4⟩ := h.hh x hx
    refine ⟨h1.keeps k (fun j e hZ => ?_), h2, h3, fun j e => ⟨?_, (h4 j e).2⟩⟩
    · have := hc j (h1.lt j e).2 hZ
      rw [(h4 j e).1] at this
      omega
    · rw [hcol j (h1.lt j e).2]
      exact (h4 j e).1
  · obtain ⟨h1, h2, h3⟩ := h.gg x hx
    refine ⟨h1.keeps k (fun j e => ?_), h2, h3⟩
    obtain ⟨cur, q⟩ := h1.tag j e
    exact tg j cur _ q (by decide) (by decide) (by decide) (by decide) (by decide)
theorem map_set {α β : Type} (f : α → β) (l : List α) (i : Nat) (a b : α) (h : l[i]? = some a) (e : f b = f a) : (l.set i b).map f = l.map f := by
  apply List.ext_getElem?
  intro k
  rw [List.getElem?_map, List.getElem?_map, List.getElem?_set]
  by_cases hk : i = k
  · subst hk
    have hl := (List.getElem?_eq_some_iff.1 h).1
    rw [if_pos rfl, if_pos hl, h]
    simp [e]
  · rw [if_neg hk]
theorem set_get {α : Type} {l : List α} {i k : Nat} {a b : α} (h : (l.set i b)[k]? = some a) : (k = i ∧ a = b) ∨ (k ≠ i ∧ l[k]? = some a) := by
  rw [List.getElem?_set] at h
  by_cases hk : i = k
  · rw [if_pos hk] at h
    split at h
    · exact .inl ⟨hk.symm, (Option.some.inj h).symm⟩
    · cases h
  · rw [if_neg hk] at h
    exact .inr ⟨fun e => hk e.symm, h⟩
/-- a machine of bus is written -/
theorem AlI.bus1 {i : Nat} {b : BSt} {T' : Nat → Option Nat} {p' : Ps} (h : AlI w0 w bb R vr vd rs ds col gs bs vs H G sv lv wv hd lr wr hd2 E F) (hb : bs[i]? = some b) (k : Keeps (fun j => j = b.m ∨ Foot b.B b.T j) w w') (hm : Mac w' b.m b.B b.V T' p'.M rs ds p'.L p'.S p'.X) (hg : Grows w.heap.size b.T T') :
    AlI w0 w' bb R vr vd rs ds (rc col w.heap.size (2 * i + 10)) gs (bs.set i ⟨b.m, b.B, b.V, T', p'⟩) vs H G sv lv wv hd lr wr hd2 E F ∧ Bt w w' := by
  have hB := h.bus i b hb
  have hz : ∀ j, j < w.heap.size → (j = b.m ∨ Foot b.B b.T j) → Zt w j := fun j _ hj => hB.zt hj
  obtain ⟨f1, f2, f3, f4, f5, f6, f7, f8, f9, f10⟩ := h.frame (c := 2 * i + 10) k hz (fun j _ hj => (hB.own j hj).1) (by omega) (fun j hj => (hB.own j hj).2) (col' := rc col w.heap.size (2 * i + 10)) (fun _ h => rc_old h)
  refine ⟨⟨f1, h.bbl, f2, fun q b' e => ?_, fun q v e => f4 q v e (by omega), ?_, h.lf, f5, f6, h.e4, f7, f8, f9, f10, h.gn⟩, Bt.of k hz⟩
  · rcases set_get e with ⟨rfl, rfl⟩ | ⟨hne, e⟩
    · refine ⟨hm, fun j hj => ?_, fun v hv j e' => ?_⟩
      · by_cases hl : j < w.heap.size
        · rw [rc_old hl]
          rcases hj with hj | hj
          · exact hB.own j (.inl hj)
          · exact hB.own j (.inr (hg.foot hj hl))
        · exact ⟨rc_new (by omega), Nat.le_trans h.below.size (by omega)⟩
      · have hl := hB.mac.mine_lt (.inr (.inr ⟨v, hv, e'⟩))
        rw [rc_old hl]
        refine (hB.rows v hv j e').imp id (fun ⟨cur, q⟩ => ⟨cur, (k.block j hl (fun hZ => ?_)).trans q⟩)
        rcases hz j hl hZ _ _ _ q with q | q | q | q | q <;> exact absurd q (by decide)
    · exact f3 q b' e (by omega)
  · rw [map_set BSt.m bs i b ⟨b.m, b.B, b.V, T', p'⟩ hb rfl]
    exact h.lb
/-- a machine of the document's own is written -/
theorem AlI.ref1 {i : Nat} {v : VSt} {vp' : Value} {ps' : List (Int × Nat)} {p' : Ps} (h : AlI w0 w bb R vr vd rs ds col gs bs vs H G sv lv wv hd lr wr hd2 E F) (hv : vs[i]? = some v) (k : Kf v.v v.vp v.ps w vp' ps' w') (hm : RM w' v.base v.v vr vd vp' ps' p'.M p'.L p'.S p'.X) (hp : ∀ x ∈ ps', Og (rs ++ ds) x.1) :
    AlI w0 w' bb R vr vd rs ds (rc col w.heap.size (2 * i + 11)) gs bs (vs.set i ⟨v.v, v.base, vp', ps', p'⟩) H G sv lv wv hd lr wr hd2 E F ∧ Bt w w' := by
  have hV := h.rf i v hv
  have hz : ∀ j, j < w.heap.size → Fo v.v v.vp v.ps j → Zt w j := fun j _ hj => hV.zt hj
  obtain ⟨f1, f2, f3, f4, f5, f6, f7, f8, f9, f10⟩ := h.frame (c := 2 * i + 11) k.keeps hz (fun j _ hj => hV.own j hj) (by omega) (fun j hj => Nat.le_trans hV.low.1 (hV.rm.fo hj).1) (col' := rc col w.heap.size (2 * i + 11)) (fun _ h => rc_old h)
  refine ⟨⟨f1, h.bbl, f2, fun k b' e => f3 k b' e (by omega), fun q v' e => ?_, h.lb, ?_, f5, f6, h.e4, f7, f8, f9, f10, h.gn⟩, Bt.of k.keeps hz⟩
  · rcases set_get e with ⟨rfl, rfl⟩ | ⟨hne, e⟩
    · refine ⟨hm, fun j hj => ?_, ⟨hV.low.1, Nat.le_trans hV.low.2 k.keeps.size⟩, hp⟩
      by_cases hl : j < w.heap.size
      · rw [rc_old hl]
        exact hV.own j ((k.grown j hj).resolve_right (by omega))
      · exact rc_new (by omega)
    · exact f4 q v' e (by omega)
  · rw [map_set VSt.v vs i v ⟨v.v, v.base, vp', ps', p'⟩ hv rfl]
    exact h.lf
/-- only new blocks were made; the book's colours for them -/
theorem AlI.low (h : AlI w0 w bb R vr vd rs ds col gs bs vs H G sv lv wv hd lr wr hd2 E F) (hb : Below w.heap.size w w') {col' : Nat → Nat} (hcol : ∀ j, j < w.heap.size → col' j = col j) :
    AlI w0 w' bb R vr vd rs ds col' gs bs vs H G sv lv wv hd lr wr hd2 E F ∧ Bt w w' := by
  have k := Keeps.of_below (S := fun _ => False) hb
  obtain ⟨f1, f2, f3, f4, f5, f6, f7, f8, f9, f10⟩ := h.frame (Z := fun _ => False) (c := 2 * (bs.length + vs.length) + 10) k (fun _ _ e => e.elim) (fun _ _ e => e.elim) (by omega) (fun _ e => e.elim) hcol
  refine ⟨⟨f1, h.bbl, f2, fun k b e => f3 k b e ?_, fun k v e => f4 k v e (by omega), h.lb, h.lf, f5, f6, h.e4, f7, f8, f9, f10, h.gn⟩, Bt.below hb⟩
  have := (List.getElem?_eq_some_iff.1 e).1
  omega
end
end Go.Proofs.YtddgoncbdlhhhaaGreat
/- BusPlays: what each call answers, of bus and of the document's own machine. Own work. -/
namespace Go.Proofs.YtddgoncbdlhhhaaGreat
open Go.RowKit Go.Maps Go.Proofs.YtddgoncbdlhhhaaGreat.Sp Wk
open Classical in
/-- the first of n bytes that is off the bus, if one is -/
noncomputable def offX (LL : List Sp) (a n : Nat) : Int × Bool := if h : ∃ y : Int × Bool, OffR LL a n y.1 y.2 then Classical.choose h else (0, false)
theorem offX_is {LL : List Sp} {a n : Nat} {x : Int} {b : Bool} (ho : OffR LL a n x b) : offX LL a n = (x, b) := by
  have h : ∃ y : Int × Bool, OffR LL a n y.1 y.2 := ⟨(x, b), ho⟩
  unfold offX
  rw [dif_pos h]
  obtain ⟨e1, e2⟩ := (Classical.choose_spec h).unique ho
  exact Prod.ext e1 e2
/-- is it a width? -/
def wdB (n : Int) : Bool := n == 1 || n == 2 || n == 4 || n == 8
theorem wdB_yes {n : Int} (h : wdB n = true) : ∃ k : Nat, n = (k : Int) ∧ Wide k ∧ n.toNat = k := by
  simp only [wdB, Bool.or_eq_true, beq_iff_eq] at h
  rcases h with ((rfl | rfl) | rfl) | rfl
  · exact ⟨1, rfl, .inl rfl, rfl⟩
  · exact ⟨2, rfl, .inr (.inl rfl), rfl⟩
  · exact ⟨4, rfl, .inr (.inr (.inl rfl)), rfl⟩
  · exact ⟨8, rfl, .inr (.inr (.inr rfl)), rfl⟩
theorem wdB_no {n : Int} (h : wdB n = false) : (∀ k : Nat, Wide k → n ≠ (k : Int)) ∧ n ≠ 1 ∧ n ≠ 2 ∧ n ≠ 4 ∧ n ≠ 8 := by
  simp only [wdB, Bool.or_eq_false_iff, beq_eq_false_iff_ne, ne_eq] at h
  obtain ⟨⟨⟨h1, h2⟩, h4⟩, h8⟩ := h
  refine ⟨fun k hk e => ?_, h1, h2, h4, h8⟩
  rcases hk with rfl | rfl | rfl | rfl
  · exact h1 e
  · exact h2 e
  · exact h4 e
  · exact h8 e
section
variable (LL : List Sp) (p : Ps) (a : Nat) (n : Int)
noncomputable def wyA : Int := if wdB n then (if (offX LL a n.toNat).2 then 30 else 0) else 31
noncomputable def adA : Int := if wdB n then (offX LL a n.toNat).1 else a
noncomputable def pkV : Int := if wdB n then (if (offX LL a n.toNat).2 then 0 else ((Pl.num 8 (rdTo p.M a 8 n.toNat) : Nat) : Int)) else 0
noncomputable def pkP : Ps := if wdB n then ⟨p.M, p.L, p.S, up (offX LL a n.toNat).2 p.X⟩ else p
noncomputable def ldP : Ps := if wdB n then ⟨p.M, up (!(offX LL a n.toNat).2) p.L, p.S, up (offX LL a n.toNat).2 p.X⟩ else p
noncomputable def stP (val : Nat) : Ps := if wdB n then (if (offX LL a n.toNat).2 then ⟨p.M, p.L, p.S, p.X + 1⟩ else ⟨putAt p.M a ((Pl.le 8 val).take n.toNat), p.L, p.S + 1, p.X⟩) else p
noncomputable def wyC : Int := if n < 0 then 1 else (if (offX LL a n.toNat).2 then 30 else 0)
noncomputable def adC : Int := if n < 0 then a else (offX LL a n.toNat).1
noncomputable def rdP : Ps := if n < 0 then p else ⟨p.M, p.L, p.S, up (offX LL a n.toNat).2 p.X⟩
noncomputable def rdL : List Nat := if n < 0 then [] else (if (offX LL a n.toNat).2 then [] else bytesAt p.M a n.toNat)
noncomputable def flP (zs : List Nat) : Ps := if n < 0 then p else (if (offX LL a n.toNat).2 then ⟨p.M, p.L, p.S, p.X + 1⟩ else ⟨putAt p.M a zs, p.L, p.S, p.X⟩)
end
/-- how high a meter stands at most -/
def Ps.le (p : Ps) (k : Nat) : Prop := p.L ≤ k ∧ p.S ≤ k ∧ p.X ≤ k
theorem Ps.le.mono {p : Ps} {k k' : Nat} (h : p.le k) (hk : k ≤ k') : p.le k' := ⟨Nat.le_trans h.1 hk, Nat.le_trans h.2.1 hk, Nat.le_trans h.2.2 hk⟩
theorem up_le (b : Bool) (n : Nat) : up b n ≤ n + 1 := by cases b <;> simp [up]
theorem pkP_le {LL : List Sp} {p : Ps} {a : Nat} {n : Int} {k : Nat} (h : p.le k) : (pkP LL p a n).le (k + 1) := by
  unfold pkP
  split
  · have := up_le (offX LL a n.toNat).2 p.X
    exact ⟨Nat.le_succ_of_le h.1, Nat.le_succ_of_le h.2.1, by have := h.2.2; show up _ _ ≤ _; omega⟩
  · exact h.mono (by omega)
theorem ldP_le {LL : List Sp} {p : Ps} {a : Nat} {n : Int} {k : Nat} (h : p.le k) : (ldP LL p a n).le (k + 1) := by
  unfold ldP
  split
  · have h1 := up_le (offX LL a n.toNat).2 p.X
    have h2 := up_le (!(offX LL a n.toNat).2) p.L
    exact ⟨by have := h.1; show up _ _ ≤ _; omega, Nat.le_succ_of_le h.2.1, by have := h.2.2; show up _ _ ≤ _; omega⟩
  · exact h.mono (by omega)
theorem stP_le {LL : List Sp} {p : Ps} {a : Nat} {n : Int} {val k : Nat} (h : p.le k) : (stP LL p a n val).le (k + 1) := by
  unfold stP
  obtain ⟨h1, h2, h3⟩ := h
  split
  · split
    · exact ⟨by show p.L ≤ _; omega, by show p.S ≤ _; omega, by show p.X + 1 ≤ _; omega⟩
    · exact ⟨by show p.L ≤ _; omega, by show p.S + 1 ≤ _; omega, by show p.X ≤ _; omega⟩
  · exact Ps.le.mono ⟨h1, h2, h3⟩ (by omega)
theorem rdP_le {LL : List Sp} {p : Ps} {a : Nat} {n : Int} {k : Nat} (h : p.le k) : (rdP LL p a n).le (k + 1) := by
  unfold rdP
  split
  · exact h.mono (by omega)
  · have := up_le (offX LL a n.toNat).2 p.X
    exact ⟨Nat.le_succ_of_le h.1, Nat.le_succ_of_le h.2.1, by have := h.2.2; show up _ _ ≤ _; omega⟩
theorem flP_le {LL : List Sp} {p : Ps} {a : Nat} {n : Int} {zs : List Nat} {k : Nat} (h : p.le k) : (flP LL p a n zs).le (k + 1) := by
  unfold flP
  obtain ⟨h1, h2, h3⟩ := h
  split
  · exact Ps.le.mono ⟨h1, h2, h3⟩ (by omega)
  · split
    · exact ⟨by show p.L ≤ _; omega, by show p.S ≤ _; omega, by show p.X + 1 ≤ _; omega⟩
    · exact ⟨by show p.L ≤ _; omega, by show p.S ≤ _; omega, by show p.X ≤ _; omega⟩
/-- all that there is, as the law sees it -/
def Al (w0 w : World) (bb R : Nat) (vr vd : Value) (rs ds : List Sp) (gs : List (Nat × Nat × Nat)) (pb pv : List Ps) (H : List (Value × List Nat)) (G : List (Value × List Sp)) : Prop :=
  ∃ col bs vs sv lv wv hd lr wr hd2 E F, AlI w0 w bb R vr vd rs ds col gs bs vs H G sv lv wv hd lr wr hd2 E F ∧ bs.map BSt.p = pb ∧ vs.map VSt.p = pv
/-- what the bus is -/
structure BusOk (w0 : World) (vr vd : Value) (rs ds : List Sp) : Prop where
  r : U64.SV w0 vr rs
  d : U64.SV w0 vd ds
  sane : Sane (rs ++ ds)
  few : rs.length + ds.length ≤ 64
  pgd : ∀ r ∈ rs ++ ds, 0 ≤ r.1 ∧ r.1 % 4096 = 0 ∧ r.2 % 4096 = 0
theorem og_of {LL : List Sp} (h : ∀ r ∈ LL, 0 ≤ r.1 ∧ r.1 % 4096 = 0 ∧ r.2 % 4096 = 0) (p : Int) (hp : On LL p) : Og LL (p / 4096) := by
  obtain ⟨r, hr, h1, h2⟩ := hp
  obtain ⟨h3, h4, h5⟩ := h r hr
  intro i hi
  exact ⟨r, hr, by omega, by omega⟩
section
variable {w0 w : World} {bb R : Nat} {vr vd : Value} {rs ds : List Sp} {gs : List (Nat × Nat × Nat)} {pb pv : List Ps} {H : List (Value × List Nat)} {G : List (Value × List Sp)} {i g m v : Nat} {p : Ps}
theorem Al.low {w' : World} (h : Al w0 w bb R vr vd rs ds gs pb pv H G) (hb : Below w.heap.size w w') : Al w0 w' bb R vr vd rs ds gs pb pv H G ∧ Bt w w' := by
  obtain ⟨col, bs, vs, sv, lv, wv, hd, lr, wr, hd2, E, F, h, e1, e2⟩ := h
  obtain ⟨h1, h2⟩ := h.low hb (col' := col) (fun _ _ => rfl)
  exact ⟨⟨_, bs, vs, sv, lv, wv, hd, lr, wr, hd2, E, F, h1, e1, e2⟩, h2⟩
theorem Al.seat (h : Al w0 w bb R vr vd rs ds gs pb pv H G) (hi : gs[i]? = some (g, m, v)) : w.heap[g]? = some (.cells #[.pointer (some ⟨m, 0, none⟩), .pointer (some ⟨v, 0, none⟩)] 39 (0, 0)) := by
  obtain ⟨col, bs, vs, sv, lv, wv, hd, lr, wr, hd2, E, F, h, e1, e2⟩ := h
  exact h.sg i g m v hi
theorem get_bs {bs : List BSt} (hb : gs.map (fun x => x.2.1) = bs.map BSt.m) (hp : bs.map BSt.p = pb) (hi : gs[i]? = some (g, m, v)) (hq : pb[i]? = some p) : ∃ b, bs[i]? = some b ∧ b.m = m ∧ b.p = p := by
  have h1 := congrArg (·[i]?) hb
  simp only [List.getElem?_map, hi, Option.map_some] at h1
  cases hc : bs[i]? with
  | none => rw [hc] at h1; cases h1
  | some b =>
    rw [hc] at h1
    rw [← hp, List.getElem?_map, hc] at hq
    exact ⟨b, rfl, (Option.some.inj h1).symm, Option.some.inj hq⟩
theorem get_vs {vs : List VSt} (hb : gs.map (fun x => x.2.2) = vs.map VSt.v) (hp : vs.map VSt.p = pv) (hi : gs[i]? = some (g, m, v)) (hq : pv[i]? = some p) : ∃ b, vs[i]? = some b ∧ b.v = v ∧ b.p = p := by
  have h1 := congrArg (·[i]?) hb
  simp only [List.getElem?_map, hi, Option.map_some] at h1
  cases hc : vs[i]? with
  | none => rw [hc] at h1; cases h1
  | some b =>
    rw [hc] at h1
    rw [← hp, List.getElem?_map, hc] at hq
    exact ⟨b, rfl, (Option.some.inj h1).symm, Option.some.inj hq⟩
/-- a machine of bus, and what comes of it -/
theorem Al.bus1 (h : Al w0 w bb R vr vd rs ds gs pb pv H G) (hi : gs[i]? = some (g, m, v)) (hp : pb[i]? = some p) : ∃ B V T, Mac w m B V T p.M rs ds p.L p.S p.X ∧ (∀ x ∈ H, ∀ k, x.1.ownBlock = some k → ¬ Mine m B V T k) ∧ ∀ w' T' p', Keeps (fun j => j = m ∨ Foot B T j) w w' → Mac w' m B V T' p'.M rs ds p'.L p'.S p'.X → Grows w.heap.size T T' → Al w0 w' bb R vr vd rs ds gs (pb.set i p') pv H G ∧ Bt w w' := by
  obtain ⟨col, bs, vs, sv, lv, wv, hd, lr, wr, hd2, E, F, h, e1, e2⟩ := h
  obtain ⟨b, hb, rfl, rfl⟩ := get_bs h.lb e1 hi hp
  refine ⟨b.B, b.V, b.T, (h.bus i b hb).mac, fun x hx k e hk => ?_, fun w' T' p' k hm hg => ?_⟩
  · obtain ⟨h1, _, _, h4⟩ := h.hh x hx
    have hc := (h4 k e).1
    obtain ⟨cur, ht⟩ := h1.tagB k e
    rcases hk with hk | hk | ⟨u, hu, e'⟩
    · have := ((h.bus i b hb).own k (.inl hk)).1
      omega
    · have := ((h.bus i b hb).own k (.inr hk)).1
      omega
    · rcases (h.bus i b hb).rows u hu k e' with q | ⟨c2, q⟩
      · omega
      · rw [ht] at q
        cases q
  · obtain ⟨h1, h2⟩ := h.bus1 hb k hm hg
    refine ⟨⟨_, _, vs, sv, lv, wv, hd, lr, wr, hd2, E, F, h1, ?_, e2⟩, h2⟩
    rw [← e1, List.map_set]
theorem Al.ref1 (h : Al w0 w bb R vr vd rs ds gs pb pv H G) (hi : gs[i]? = some (g, m, v)) (hp : pv[i]? = some p) : ∃ base vp ps, RM w base v vr vd vp ps p.M p.L p.S p.X ∧ w0.heap.size ≤ base ∧ base ≤ w.heap.size ∧ (∀ x ∈ ps, Og (rs ++ ds) x.1) ∧ ∀ w' vp' ps' p', Kf v vp ps w vp' ps' w' → RM w' base v vr vd vp' ps' p'.M p'.L p'.S p'.X → (∀ x ∈ ps', Og (rs ++ ds) x.1) → Al w0 w' bb R vr vd rs ds gs pb (pv.set i p') H G ∧ Bt w w' := by
  obtain ⟨col, bs, vs, sv, lv, wv, hd, lr, wr, hd2, E, F, h, e1, e2⟩ := h
  obtain ⟨b, hb, rfl, rfl⟩ := get_vs h.lf e2 hi hp
  refine ⟨b.base, b.vp, b.ps, (h.rf i b hb).rm, (h.rf i b hb).low.1, (h.rf i b hb).low.2, (h.rf i b hb).pgs, fun w' vp' ps' p' k hm hg => ?_⟩
  obtain ⟨h1, h2⟩ := h.ref1 hb k hm hg
  refine ⟨⟨_, bs, _, sv, lv, wv, hd, lr, wr, hd2, E, F, h1, e1, ?_⟩, h2⟩
  rw [← e2, List.map_set]
theorem Al.b0 (h : Al w0 w bb R vr vd rs ds gs pb pv H G) : Below w0.heap.size w0 w := by
  obtain ⟨col, bs, vs, sv, lv, wv, hd, lr, wr, hd2, E, F, h, e1, e2⟩ := h
  exact h.below
theorem set_same {l : List Ps} (h : l[i]? = some p) : l.set i p = l := by
  apply List.ext_getElem?
  intro k
  rw [List.getElem?_set]
  by_cases e : i = k
  · subst e
    rw [if_pos rfl, if_pos (List.getElem?_eq_some_iff.1 h).1, h]
  · rw [if_neg e]
theorem askW_not {w : World} {m : Nat} {a n : Int} (hn : n ≠ 1 ∧ n ≠ 2 ∧ n ≠ 4 ∧ n ≠ 8) : Calls Tryz.prog 46 #[.pointer (some ⟨m, 0, none⟩), .int .u64 a, .int .i64 n] w fun e w' => e = .returned (FaultV 31 a) ∧ Below w.heap.size w w' := askWidth_not hn
end
end Go.Proofs.YtddgoncbdlhhhaaGreat
