import Derived.Test.YtdkhhofgfbnmkaaGreatPf31
import Derived.BigQuiet
/- The document's own machine with pages: its Peek and its Load of any width. Own work. -/
namespace Go.Proofs.YtdkhhofgfbnmkaaGreat
open Go.RowKit Go.Maps Go.Proofs.YtdkhhofgfbnmkaaGreat.Sp Wk
theorem rdTo_get (M : Nat → Nat) (a C n k : Nat) : (rdTo M a C n).getD k 0 = if k < n then M (a + k) else 0 := by
  unfold rdTo
  rw [List.getD_eq_getElem?_getD]
  by_cases h : k < n
  · rw [if_pos h, List.getElem?_append_left (by rw [bytesAt_length]; exact h), bytesAt_get M a n k h]
    rfl
  · rw [if_neg h, List.getElem?_append_right (by rw [bytesAt_length]; omega), List.getElem?_replicate]
    split <;> rfl
theorem acc_zero {zs : List Nat} : ∀ (m k : Nat), (∀ j, k ≤ j → zs.getD j 0 = 0) → Pl.acc zs k m = 0
  | 0, _, _ => rfl
  | m + 1, k, h => by
    show zs.getD k 0 + 256 * Pl.acc zs (k + 1) m = 0
    rw [h k (Nat.le_refl _), acc_zero m (k + 1) (fun j hj => h j (by omega))]
theorem acc_add {zs : List Nat} (r : Nat) : ∀ (m k : Nat), (∀ j, k + m ≤ j → zs.getD j 0 = 0) → Pl.acc zs k (m + r) = Pl.acc zs k m
  | 0, k, h => by rw [Nat.zero_add]; exact acc_zero r k h
  | m + 1, k, h => by
    rw [show m + 1 + r = m + r + 1 by omega]
    show zs.getD k 0 + 256 * Pl.acc zs (k + 1) (m + r) = zs.getD k 0 + 256 * Pl.acc zs (k + 1) m
    rw [acc_add r m (k + 1) (fun j hj => h j (by omega))]
theorem num_rdTo (M : Nat → Nat) (a n : Nat) (h : n ≤ 8) : Pl.num 8 (rdTo M a 8 n) = Pl.acc (rdTo M a 8 n) 0 n := by
  have := acc_add (zs := rdTo M a 8 n) (8 - n) n 0 (fun j hj => by rw [rdTo_get, if_neg (by omega)])
  rw [show n + (8 - n) = 8 by omega] at this
  exact this
/-- what the document's own Peek and Load do -/
def RPkM (w : World) (base v : Nat) (vr vd vp : Value) (ps : List (Int × Nat)) (M : Nat → Nat) (LL : List Sp) (L S X a n : Nat) (d : Bool → Nat) (e : Ending) (w' : World) : Prop :=
  ∃ x b, OffR LL a n x b ∧ e = .returned (.tuple #[.int .u64 (if b then 0 else (Pl.num 8 (rdTo M a 8 n) : Nat) : Int), FaultV (if b then 30 else 0) x]) ∧ RM w' base v vr vd vp ps M (L + d b) S (up b X) ∧ Keeps (fun j => j = v) w w'
set_option maxRecDepth 100000 in
set_option maxHeartbeats 4000000 in
theorem rpeek_at {w : World} {base v : Nat} {vr vd vp : Value} {ps : List (Int × Nat)} {M : Nat → Nat} {rs ds : List Sp} {L S X a n : Nat} (h : RM w base v vr vd vp ps M L S X) (hw : Wide n) (hr : U64.SV w vr rs) (hd : U64.SV w vd ds) (hs : Sane (rs ++ ds)) (hll : rs.length + ds.length ≤ 64) (ha : a ≤ 18446744073709551615) (hX : X ≤ 4611686018427387904) :
    Calls Tryz.prog 76 #[.pointer (some ⟨v, 0, none⟩), .int .u64 (a : Int), .int .i64 (n : Int)] w (RPkM w base v vr vd vp ps M (rs ++ ds) L S X a n (fun _ => 0)) := by
  have HR := Lib.hid h
  have HAc : Hid (∀ W, Below w.heap.size w W → Calls Tryz.prog 33 #[.pointer (some ⟨v, 0, none⟩), .int .u64 (a : Int), .int .i64 (n : Int)] W (RAsk W v vr vd vp (rs ++ ds) L S X a n)) := fun W hW => raccess_any (h.2.1.below hW) (hr.below hW (Nat.le_refl _)) (hd.below hW (Nat.le_refl _)) hs hll ha (by rcases hw with h | h | h | h <;> omega) hX
  have HS := Lib.hid hs
  have HRt : Hid (∀ W, Calls Tryz.prog 32 #[.int .i64 (n : Int)] W fun e w' => e = .returned (.bool true) ∧ w' = W) := right_wide hw
  have hvl := h.2.1.lt
  generalize rs ++ ds = LL at *
  have hn1 : 1 ≤ n := by rcases hw with h | h | h | h <;> omega
  have hn8 : n ≤ 8 := by rcases hw with h | h | h | h <;> omega
  clear h hr hd hs hll hw
  go_enter Tryz.func76, Tryz.ntmps76
  go_wp2_with (go_at_call 32; refine (HRt.out _).mono ?_; rintro e w' ⟨rfl, hw⟩; have hw := hw.symm; subst hw)
  refine (HAc.out _ ((Below.refl _ _).alloc (Nat.le_refl _) _)).mono ?_
  rintro e w1 ⟨x, b, ho, rfl, hm1, hk1⟩
  have HOff : Hid (OffR LL a n x b) := ho
  have HX1 : Hid (BoxG w1 w.heap.size 0 0) := (BoxG.new w 0 0).keeps hk1 (show ¬ w.heap.size = v by omega)
  have HK1 : Hid (Keeps (fun j => j = v) w w1) := (Keeps.alloc (S := fun j => j = v) w _).trans hk1 (fun _ _ e => e)
  have HM1 : Hid (RM w1 base v vr vd vp ps M L S (up b X)) := (HR.out.box HK1.out hm1).1
  obtain ⟨x0, x1, f0, f1⟩ := HX1.out.cells
  have hne : w.heap.size ≠ w1.heap.size := Nat.ne_of_lt HX1.out.lt
  have hlt1 := HX1.out.lt
  have hml1 := HM1.out.2.1.lt
  clear ho hm1 hk1 HAc HR
  unfold FaultV
  cases b with
  | true =>
    simp only [if_true]
    go_wp2_with fail
    obtain ⟨W2, hW2⟩ : ∃ W2, w1.alloc (Obj.cells #[.int .i64 30, .int .u64 x] 41) = W2 := ⟨_, rfl⟩
    have HF2 : Hid (BoxG W2 w1.heap.size 30 x) := hW2 ▸ BoxG.new w1 30 x
    have HX2 : Hid (BoxG W2 w.heap.size 0 0) := hW2 ▸ HX1.out.below ((Below.refl _ _).alloc (Nat.le_refl _) _)
    have HB2 : Hid (Below w1.heap.size w1 W2) := hW2 ▸ (Below.refl _ _).alloc (Nat.le_refl _) _
    rw [hW2]
    obtain ⟨x0, x1, f0, f1⟩ := HX2.out.cells
    obtain ⟨y0, y1, _, _⟩ := HF2.out.cells
    clear hW2
    go_region_held3 (fun w' => w'.cell? ⟨w1.heap.size, 0, none⟩ = some (.int .i64 30) ∧ w'.cell? ⟨w1.heap.size, 1, none⟩ = some (.int .u64 x)) (go_keep) (fail)
    go_wp2_with fail
    obtain ⟨d0, d1, _⟩ := BoxG.cells (w := ((W2.setCell ⟨w.heap.size, 0, none⟩ (.int .i64 30)).setCell ⟨w.heap.size, 1, none⟩ (.int .u64 x)).drew) (HX2.out.set 30 x)
    refine bodyPost_ret (v := .tuple #[.int .u64 0, .agg #[.int .i64 30, .int .u64 x]]) (by simp [results, Tryz.results76, go_sem, d0, d1]) rfl ?_
    have hk2 : Keeps (fun j => j = w.heap.size) W2 (((W2.setCell ⟨w.heap.size, 0, none⟩ (.int .i64 30)).setCell ⟨w.heap.size, 1, none⟩ (.int .u64 x)).drew) := (Keeps.two W2 w.heap.size (.int .i64 30) (.int .u64 x)).drew
    exact ⟨x, true, HOff.out, rfl, (HM1.out.below HB2.out).keeps hk2 HX2.out.notVB, (HK1.out.trans (Keeps.of_below (S := fun _ => False) HB2.out) (fun _ _ h => h.elim)).trans hk2 (fun i hi e => absurd e (by omega))⟩
  | false =>
    simp only [Bool.false_eq_true, if_false]
    obtain ⟨hx0, hon⟩ := HOff.out.2 rfl
    subst hx0
    have hle := on_le HS.out (hon 0 (by omega))
    clear hon
    go_wp2_with fail
    obtain ⟨W2, hW2⟩ : ∃ W2, w1.alloc (Obj.cells #[.int .i64 0, .int .u64 0] 41) = W2 := ⟨_, rfl⟩
    have HF2 : Hid (BoxG W2 w1.heap.size 0 0) := hW2 ▸ BoxG.new w1 0 0
    have HX2 : Hid (BoxG W2 w.heap.size 0 0) := hW2 ▸ HX1.out.below ((Below.refl _ _).alloc (Nat.le_refl _) _)
    have HB2 : Hid (Below w1.heap.size w1 W2) := hW2 ▸ (Below.refl _ _).alloc (Nat.le_refl _) _
    try rw [hW2]
    have HBy := Lib.hid (rbytes_at (n := n) (a := a) (HM1.out.below HB2.out) hn1 hn8 (by omega))
    clear hW2
    refine HBy.out.mono ?_
    rintro e w3 ⟨rfl, hp3, hb3⟩
    have HB3 : Hid (Below W2.heap.size W2 w3) := hb3
    have HP3 := Lib.hid hp3
    have HF3 : Hid (BoxG w3 w1.heap.size 0 0) := HF2.out.below hb3
    have HX3 : Hid (BoxG w3 w.heap.size 0 0) := HX2.out.below hb3
    have HM3 : Hid (∀ p, M p < 256) := HM1.out.2.2.2.2.2.2.1
    clear hb3 HBy hp3
    go_wp2_with fail
    go_loop [10, 11] (fun nv iv => ∃ i : Nat, i ≤ n ∧ iv = .int .i64 ((i : Int) - 1) ∧ ∃ V : Nat, nv = .int .u64 (V : Int) ∧ Hid (V = Pl.acc (rdTo M a 8 n) i (n - i))) (fun _ iv => (intOf iv + 1).toNat)
    case atStart => exact ⟨n, Nat.le_refl _, rfl, 0, rfl, by show 0 = _; rw [Nat.sub_self]; rfl⟩
    case round =>
      obtain ⟨i, hi, rfl, V, rfl, HV⟩ := hrel
      cases i with
      | zero =>
        obtain ⟨x0, x1, f0, f1⟩ := HX3.out.cells
        obtain ⟨y0, y1, _, _⟩ := HF3.out.cells
        go_wp2_with fail
        go_region_held3 (fun w' => w'.cell? ⟨w1.heap.size, 0, none⟩ = some (.int .i64 0) ∧ w'.cell? ⟨w1.heap.size, 1, none⟩ = some (.int .u64 0)) (go_keep) (fail)
        go_wp2_with fail
        obtain ⟨d0, d1, _⟩ := BoxG.cells (w := ((w3.setCell ⟨w.heap.size, 0, none⟩ (.int .i64 0)).setCell ⟨w.heap.size, 1, none⟩ (.int .u64 0)).drew) (HX3.out.set 0 0)
        refine bodyPost_ret (v := .tuple #[.int .u64 (V : Int), .agg #[.int .i64 0, .int .u64 0]]) (by simp [results, Tryz.results76, go_sem, d0, d1]) rfl ?_
        have hk2 : Keeps (fun j => j = w.heap.size) w3 (((w3.setCell ⟨w.heap.size, 0, none⟩ (.int .i64 0)).setCell ⟨w.heap.size, 1, none⟩ (.int .u64 0)).drew) := (Keeps.two w3 w.heap.size (.int .i64 0) (.int .u64 0)).drew
        have hb13 : Below w1.heap.size w1 w3 := HB2.out.trans (HB3.out.mono HB2.out.size)
        refine ⟨0, false, HOff.out, ?_, (HM1.out.below hb13).keeps hk2 HX3.out.notVB, (HK1.out.trans (Keeps.of_below (S := fun _ => False) hb13) (fun _ _ h => h.elim)).trans hk2 (fun i hi e => absurd e (by omega))⟩
        rw [num_rdTo M a n hn8, HV.out]
        rfl
      | succ i =>
        have hc := HP3.out.cell i (by omega)
        have hzb := HM3.out (a + i)
        have hV : V ≤ 72057594037927935 := by
          have h1 := Pl.acc_lt (rdTo_small HM3.out a 8 n) (i + 1) (n - (i + 1))
          have h2 : 256 ^ (n - (i + 1)) ≤ 256 ^ 7 := Nat.pow_le_pow_right (by omega) (by omega)
          rw [← HV.out] at h1
          have h3 : (256 : Nat) ^ 7 = 72057594037927936 := rfl
          omega
        have HV2 : Hid (V * 256 + M (a + i) = Pl.acc (rdTo M a 8 n) i (n - i)) := by
          show _ = _
          rw [show n - i = n - (i + 1) + 1 by omega]
          show _ = (rdTo M a 8 n).getD i 0 + 256 * Pl.acc (rdTo M a 8 n) (i + 1) (n - (i + 1))
          rw [← HV.out, rdTo_get, if_pos (by omega)]
          omega
        have hin : (i : Int) < (n : Int) := by omega
        generalize M (a + i) = z at hc hzb HV2
        rw [show (((i + 1 : Nat) : Int) - 1) = (i : Int) by omega]
        go_wp2_with fail
        go_round
        case rel => exact ⟨i, by omega, by go_num, V * 256 + z, by go_num, HV2⟩
        case measure => simp [intOf]
end Go.Proofs.YtdkhhofgfbnmkaaGreat
/- The document's own machine with pages: its Load of any width. Own work. -/
namespace Go.Proofs.YtdkhhofgfbnmkaaGreat
open Go.RowKit Go.Maps Go.Proofs.YtdkhhofgfbnmkaaGreat.Sp Wk
set_option maxRecDepth 100000 in
set_option maxHeartbeats 4000000 in
theorem rload_at {w : World} {base m : Nat} {vr vd vp : Value} {ps : List (Int × Nat)} {M : Nat → Nat} {rs ds : List Sp} {L S X a n : Nat} (h : RM w base m vr vd vp ps M L S X) (hw : Wide n) (hr : U64.SV w vr rs) (hd : U64.SV w vd ds) (hs : Sane (rs ++ ds)) (hl : rs.length + ds.length ≤ 64) (ha : a ≤ 18446744073709551615) (hX : X ≤ 4611686018427387904) (hL : L ≤ 4611686018427387904) :
    Calls Tryz.prog 48 #[.pointer (some ⟨m, 0, none⟩), .int .u64 (a : Int), .int .i64 (n : Int)] w (RPkM w base m vr vd vp ps M (rs ++ ds) L S X a n (fun b => if b then 0 else 1)) := by
  have HA : Hid (∀ W, Below w.heap.size w W → Calls Tryz.prog 76 #[.pointer (some ⟨m, 0, none⟩), .int .u64 (a : Int), .int .i64 (n : Int)] W (RPkM W base m vr vd vp ps M (rs ++ ds) L S X a n (fun _ => 0))) := fun W hW => rpeek_at (h.below hW) hw (hr.below hW (Nat.le_refl _)) (hd.below hW (Nat.le_refl _)) hs hl ha hX
  generalize rs ++ ds = LL at *
  have hml := h.2.1.lt
  clear h hr hd hs hl hw
  go_enter Tryz.func48, Tryz.ntmps48
  go_wp2_with fail
  refine (HA.out _ ((Below.refl _ _).alloc (Nat.le_refl _) _)).mono ?_
  rintro e w1 ⟨x, b, ho, rfl, hm1, hk1⟩
  have HOff : Hid (OffR LL a n x b) := ho
  have HX1 : Hid (BoxG w1 w.heap.size 0 0) := (BoxG.new w 0 0).keeps hk1 (show ¬ w.heap.size = m by omega)
  have HM1 : Hid (RM w1 base m vr vd vp ps M L S (up b X)) := hm1
  have HK1 : Hid (Keeps (fun j => j = m) w w1) := (Keeps.alloc (S := fun j => j = m) w _).trans hk1 (fun _ _ e => e)
  obtain ⟨x0, x1, f0, f1⟩ := HX1.out.cells
  have hml1 := HM1.out.2.1.lt
  have hne : w.heap.size ≠ w1.heap.size := Nat.ne_of_lt HX1.out.lt
  have hlt1 := HX1.out.lt
  have c3 := fun X => U64.cell_alloc' X HM1.out.2.1.cells.2.2.2.1
  have g3 := fun X : Obj => (HM1.out.2.1.below ((Below.refl _ _).alloc (Nat.le_refl _) X)).thawed 3
  clear ho hm1 hk1 HA
  unfold FaultV
  cases b with
  | true =>
    simp only [if_true]
    go_wp2_with fail
    obtain ⟨W2, hW2⟩ : ∃ W2, w1.alloc (Obj.cells #[.int .i64 30, .int .u64 x] 41) = W2 := ⟨_, rfl⟩
    have HF2 : Hid (BoxG W2 w1.heap.size 30 x) := hW2 ▸ BoxG.new w1 30 x
    have HX2 : Hid (BoxG W2 w.heap.size 0 0) := hW2 ▸ HX1.out.below ((Below.refl _ _).alloc (Nat.le_refl _) _)
    have HB2 : Hid (Below w1.heap.size w1 W2) := hW2 ▸ (Below.refl _ _).alloc (Nat.le_refl _) _
    rw [hW2]
    obtain ⟨x0, x1, f0, f1⟩ := HX2.out.cells
    obtain ⟨y0, y1, _, _⟩ := HF2.out.cells
    clear hW2 c3 g3
    go_region_held3 (fun w' => w'.cell? ⟨w1.heap.size, 0, none⟩ = some (.int .i64 30) ∧ w'.cell? ⟨w1.heap.size, 1, none⟩ = some (.int .u64 x)) (go_keep) (fail)
    go_wp2_with fail
    obtain ⟨d0, d1, _⟩ := BoxG.cells (w := ((W2.setCell ⟨w.heap.size, 0, none⟩ (.int .i64 30)).setCell ⟨w.heap.size, 1, none⟩ (.int .u64 x)).drew) (HX2.out.set 30 x)
    refine bodyPost_ret (v := .tuple #[.int .u64 0, .agg #[.int .i64 30, .int .u64 x]]) (by simp [results, Tryz.results48, go_sem, d0, d1]) rfl ?_
    have hk2 : Keeps (fun j => j = w.heap.size) W2 (((W2.setCell ⟨w.heap.size, 0, none⟩ (.int .i64 30)).setCell ⟨w.heap.size, 1, none⟩ (.int .u64 x)).drew) := (Keeps.two W2 w.heap.size (.int .i64 30) (.int .u64 x)).drew
    exact ⟨x, true, HOff.out, rfl, (HM1.out.below HB2.out).keeps hk2 HX2.out.notVB, (HK1.out.trans (Keeps.of_below (S := fun _ => False) HB2.out) (fun _ _ h => h.elim)).trans hk2 (fun i hi e => absurd e (by omega))⟩
  | false =>
    simp only [Bool.false_eq_true, if_false]
    obtain ⟨V, hV⟩ : ∃ V : Nat, V = Pl.num 8 (rdTo M a 8 n) := ⟨_, rfl⟩
    rw [← hV]
    have HV := Lib.hid hV
    clear hV
    go_wp2_with fail
    obtain ⟨W2, hW2⟩ : ∃ W2, (w1.setCell ⟨m, 3, none⟩ (.int .i64 ((L : Int) + 1))).alloc (Obj.cells #[.int .i64 0, .int .u64 x] 41) = W2 := ⟨_, rfl⟩
    have HF2 : Hid (BoxG W2 w1.heap.size 0 x) := by rw [← hW2]; exact heap_alloc_newN (by simp [World.setCell]) _
    have HX2 : Hid (BoxG W2 w.heap.size 0 0) := by rw [← hW2]; exact (HX1.out.keeps (Keeps.setCell _ _ _ _) (by omega)).below ((Below.refl _ _).alloc (Nat.le_refl _) _)
    have HK2 : Hid (Keeps (fun j => j = m) w1 W2) := by rw [← hW2]; exact (Keeps.setCell _ _ _ _).trans (Keeps.alloc (S := fun j => j = m) _ _) (fun _ _ e => e)
    have HM2 : Hid (RM W2 base m vr vd vp ps M (L + 1) S X) := by
      rw [← hW2]
      refine ((HM1.out.box (Keeps.setCell w1 m 3 (.int .i64 ((L : Int) + 1))) ?_).1).below ((Below.refl _ _).alloc (Nat.le_refl _) _)
      have h1 : w1.heap[m]? = _ := HM1.out.2.1
      simp [RBox, World.setCell, Array.getElem?_modify, h1, up]
    rw [hW2]
    obtain ⟨x0, x1, f0, f1⟩ := HX2.out.cells
    obtain ⟨y0, y1, _, _⟩ := HF2.out.cells
    clear hW2 c3 g3
    go_region_held3 (fun w' => w'.cell? ⟨w1.heap.size, 0, none⟩ = some (.int .i64 0) ∧ w'.cell? ⟨w1.heap.size, 1, none⟩ = some (.int .u64 x)) (go_keep) (fail)
    go_wp2_with fail
    obtain ⟨d0, d1, _⟩ := BoxG.cells (w := ((W2.setCell ⟨w.heap.size, 0, none⟩ (.int .i64 0)).setCell ⟨w.heap.size, 1, none⟩ (.int .u64 x)).drew) (HX2.out.set 0 x)
    refine bodyPost_ret (v := .tuple #[.int .u64 (V : Int), .agg #[.int .i64 0, .int .u64 x]]) (by simp [results, Tryz.results48, go_sem, d0, d1]) rfl ?_
    have hk2 : Keeps (fun j => j = w.heap.size) W2 (((W2.setCell ⟨w.heap.size, 0, none⟩ (.int .i64 0)).setCell ⟨w.heap.size, 1, none⟩ (.int .u64 x)).drew) := (Keeps.two W2 w.heap.size (.int .i64 0) (.int .u64 x)).drew
    refine ⟨x, false, HOff.out, ?_, HM2.out.keeps hk2 HX2.out.notVB, (HK1.out.trans HK2.out (fun _ _ e => e)).trans hk2 (fun i hi e => absurd e (by omega))⟩
    rw [HV.out]
    rfl
end Go.Proofs.YtdkhhofgfbnmkaaGreat
/- The document's own look at an entry's bytes. Own work. -/
namespace Go.Proofs.YtdkhhofgfbnmkaaGreat
open Go.RowKit Go.Maps Go.Proofs.YtdkhhofgfbnmkaaGreat.Sp Wk
theorem Keeps.drewN {S : Nat → Prop} (w : World) (n : Nat) : Keeps S w (w.drewN n) := ⟨rfl, rfl, rfl, Nat.le_refl _, fun _ _ _ => rfl⟩
set_option maxRecDepth 100000 in
set_option maxHeartbeats 4000000 in
theorem rpk_any {w : World} {base v : Nat} {vr vd vp : Value} {ps : List (Int × Nat)} {M : Nat → Nat} {rs ds : List Sp} {L S X a : Nat} (h : RM w base v vr vd vp ps M L S X) (hr : U64.SV w vr rs) (hd : U64.SV w vd ds) (hs : Sane (rs ++ ds)) (hll : rs.length + ds.length ≤ 64) (ha : a ≤ 18446744073709551615) (hX : X ≤ 4611686018427387904) :
    Calls Tryz.prog 44 #[.pointer (some ⟨v, 0, none⟩), .int .u64 (a : Int)] w fun e w' => ∃ x b, OffR (rs ++ ds) a 8 x b ∧ e = .returned (.tuple #[.int .u64 (if b then 0 else (Pl.num 8 (rdTo M a 8 8) : Nat) : Int), .bool (!b)]) ∧ RM w' base v vr vd vp ps M L S X ∧ Keeps (fun j => j = v) w w' := by
  have HP : Hid (Calls Tryz.prog 76 #[.pointer (some ⟨v, 0, none⟩), .int .u64 (a : Int), .int .i64 ((8 : Nat) : Int)] w (RPkM w base v vr vd vp ps M (rs ++ ds) L S X a 8 (fun _ => 0))) := rpeek_at h (.inr (.inr (.inr rfl))) hr hd hs hll ha hX
  obtain ⟨_, _, _, _, _, c5⟩ := h.2.1.cells
  generalize rs ++ ds = LL at *
  clear h hr hd hs hll
  go_enter Tryz.func44, Tryz.ntmps44
  go_wp2_with fail
  refine HP.out.mono ?_
  rintro e w1 ⟨x, b, ho, rfl, hm1, hk1⟩
  have HOff := Lib.hid ho
  have HM1 := Lib.hid hm1
  have HK1 := Lib.hid hk1
  have hvl := hm1.2.1.lt
  obtain ⟨V, hV⟩ : ∃ V : Nat, (if b then 0 else (Pl.num 8 (rdTo M a 8 8) : Nat) : Int) = (V : Int) := by
    cases b
    · exact ⟨_, rfl⟩
    · exact ⟨0, rfl⟩
  have HV := Lib.hid hV
  rw [hV]
  clear ho hm1 hk1 HP hV c5
  unfold FaultV
  have c5 := fun Z => U64.cell_alloc' Z HM1.out.2.1.cells.2.2.2.2.2
  have f5 := fun Z : Obj => (HM1.out.2.1.below ((Below.refl _ _).alloc (Nat.le_refl _) Z)).thawed 5
  have hfin : ∀ (y : Obj) (W : World), Keeps (fun _ => False) ((w1.setCell ⟨v, 5, none⟩ (.int .i64 (X : Int))).alloc y) W → RM W base v vr vd vp ps M L S X ∧ Keeps (fun j => j = v) w W := fun y W hW => by
    have hk := Keeps.setCell w1 v 5 (.int .i64 (X : Int))
    have h1 : RM (w1.setCell ⟨v, 5, none⟩ (.int .i64 (X : Int))) base v vr vd vp ps M L S X := (HM1.out.box hk (by
      have h2 : w1.heap[v]? = _ := HM1.out.2.1
      simp [RBox, World.setCell, Array.getElem?_modify, h2])).1
    have hk2 := (Keeps.alloc (S := fun _ => False) (w1.setCell ⟨v, 5, none⟩ (.int .i64 (X : Int))) y).trans hW (fun _ _ e => e)
    exact ⟨h1.keeps hk2 (fun _ _ e => e), (HK1.out.trans hk (fun _ _ e => e)).trans hk2 (fun _ _ e => e.elim)⟩
  have HFin := Lib.hid hfin
  clear hfin
  cases b with
  | true =>
    simp only [if_true]
    go_wp2_with fail
    go_quiet (fail)
    go_wp2_with fail
    refine bodyPost_ret (v := .tuple #[.int .u64 (V : Int), .bool false]) (by simp [results, Tryz.results44, go_sem]) rfl ?_
    obtain ⟨r1, r2⟩ := HFin.out _ _ (Keeps.drewN (S := fun _ => False) _ nq)
    refine ⟨x, true, HOff.out, ?_, r1, r2⟩
    have := HV.out
    simp only [if_true] at this ⊢
    rw [← this]
    rfl
  | false =>
    simp only [Bool.false_eq_true, if_false]
    go_wp2_with fail
    go_quiet (fail)
    go_wp2_with fail
    refine bodyPost_ret (v := .tuple #[.int .u64 (V : Int), .bool true]) (by simp [results, Tryz.results44, go_sem]) rfl ?_
    obtain ⟨r1, r2⟩ := HFin.out _ _ (Keeps.drewN (S := fun _ => False) _ nq)
    refine ⟨x, false, HOff.out, ?_, r1, r2⟩
    have := HV.out
    simp only [Bool.false_eq_true, if_false] at this ⊢
    rw [← this]
    rfl
end Go.Proofs.YtdkhhofgfbnmkaaGreat
