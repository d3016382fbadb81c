import Derived.Test.YtddgoncbdlhhhaaGreatR26
import Derived.Test.YtddgoncbdlhhhaaGreatR25
/- The document's own machine with pages: its Peek and its Load of any width. Own work. -/
namespace Go.Proofs.YtddgoncbdlhhhaaGreat
open Go.RowKit Go.Maps Go.Proofs.YtddgoncbdlhhhaaGreat.Sp Wk
theorem rdTo_get (M : Nat → Nat) (a C n k : Nat) : (rdTo M a C n).getD k 0 = if k < n then M (a + k) else 0 := by
  unfold rdTo
  rw [List.getD_eq_getElem?_getD]
  by_cases h : k < n
  · rw [if_pos h, List.getElem?_append_left (by rw [bytesAt_length]; exact h), bytesAt_get M a n k h]
    rfl
  · rw [if_neg h, List.getElem?_append_right (by rw [bytesAt_length]; omega), List.getElem?_replicate]
    split <;> rfl
theorem acc_zero {zs : List Nat} : ∀ (m k : Nat), (∀ j, k ≤ j → zs.getD j 0 = 0) → Pl.acc zs k m = 0
  | 0, _, _ => rfl
  | m + 1, k, h => by
    show zs.getD k 0 + 256 * Pl.acc zs (k + 1) m = 0
    rw [h k (Nat.le_refl _), acc_zero m (k + 1) (fun j hj => h j (by omega))]
theorem acc_add {zs : List Nat} (r : Nat) : ∀ (m k : Nat), (∀ j, k + m ≤ j → zs.getD j 0 = 0) → Pl.acc zs k (m + r) = Pl.acc zs k m
  | 0, k, h => by rw [Nat.zero_add]; exact acc_zero r k h
  | m + 1, k, h => by
    rw [show m + 1 + r = m + r + 1 by omega]
    show zs.getD k 0 + 256 * Pl.acc zs (k + 1) (m + r) = zs.getD k 0 + 256 * Pl.acc zs (k + 1) m
    rw [acc_add r m (k + 1) (fun j hj => h j (by omega))]
theorem num_rdTo (M : Nat → Nat) (a n : Nat) (h : n ≤ 8) : Pl.num 8 (rdTo M a 8 n) = Pl.acc (rdTo M a 8 n) 0 n := by
  have := acc_add (zs := rdTo M a 8 n) (8 - n) n 0 (fun j hj => by rw [rdTo_get, if_neg (by omega)])
  rw [show n + (8 - n) = 8 by omega] at this
  exact this
/-- what the document's own Peek and Load do -/
def RPkM (w : World) (base v : Nat) (vr vd vp : Value) (ps : List (Int × Nat)) (M : Nat → Nat) (LL : List Sp) (L S X a n : Nat) (d : Bool → Nat) (e : Ending) (w' : World) : Prop :=
  ∃ x b, OffR LL a n x b ∧ e = .returned (.tuple #[.int .u64 (if b then 0 else (Pl.num 8 (rdTo M a 8 n) : Nat) : Int), FaultV (if b then 30 else 0) x]) ∧ RM w' base v vr vd vp ps M (L + d b) S (up b X) ∧ Keeps (fun j => j = v) w w'
set_option maxRecDepth 100000 in
set_option maxHeartbeats 4000000 in
theorem rpeek_at {w : World} {base v : Nat} {vr vd vp : Value} {ps : List (Int × Nat)} {M : Nat → Nat} {rs ds : List Sp} {L S X a n : Nat} (h : RM w base v vr vd vp ps M L S X) (hw : Wide n) (hr : U64.SV w vr rs) (hd : U64.SV w vd ds) (hs : Sane (rs ++ ds)) (hll : rs.length + ds.length ≤ 64) (ha : a ≤ 18446744073709551615) (hX : X ≤ 4611686018427387904) :
    Calls Tryz.prog 22 #[.pointer (some ⟨v, 0, none⟩), .int .u64 (a : Int), .int .i64 (n : Int)] w (RPkM w base v vr vd vp ps M (rs ++ ds) L S X a n (fun _ => 0)) := by
  have HR := Lib.hid h
  have HAc : Hid (∀ W, Below w.heap.size w W → Calls Tryz.prog 50 #[.pointer (some ⟨v, 0, none⟩), .int .u64 (a : Int), .int .i64 (n : Int)] W (RAsk W v vr vd vp (rs ++ ds) L S X a n)) := fun W hW => raccess_any (h.2.1.below hW) (hr.below hW (Nat.le_refl _)) (hd.below hW (Nat.le_refl _)) hs hll ha (by rcases hw with h | h | h | h <;> omega) hX
  have HS := Lib.hid hs
  have HRt : Hid (∀ W, Calls Tryz.prog 49 #[.int .i64 (n : Int)] W fun e w' => e = .returned (.bool true) ∧ w' = W) := right_wide hw
  have hvl := h.2.1.lt
  generalize rs ++ ds = LL at *
  have hn1 : 1 ≤ n := by rcases hw with h | h | h | h <;> omega
  have hn8 : n ≤ 8 := by rcases hw with h | h | h | h <;> omega
  clear h hr hd hs hll hw
  go_enter Tryz.func22, Tryz.ntmps22
  go_wp2_with (go_at_call 49; refine (HRt.out _).mono ?_; rintro e w' ⟨rfl, hw⟩; have hw := hw.symm; subst hw)
  refine (HAc.out _ ((Below.refl _ _).alloc (Nat.le_refl _) _)).mono ?_
  rintro e w1 ⟨x, b, ho, rfl, hm1, hk1⟩
  have HOff : Hid (OffR LL a n x b) := ho
  have HX1 : Hid (BoxG w1 w.heap.size 0 0) := (BoxG.new w 0 0).keeps hk1 (show ¬ w.heap.size = v by omega)
  have HK1 : Hid (Keeps (fun j => j = v) w w1) := (Keeps.alloc (S := fun j => j = v) w _).trans hk1 (fun _ _ e => e)
  have HM1 : Hid (RM w1 base v vr vd vp ps M L S (up b X)) := (HR.out.box HK1.out hm1).1
  obtain ⟨x0, x1, f0, f1⟩ := HX1.out.cells
  have hne : w.heap.size ≠ w1.heap.size := Nat.ne_of_lt HX1.out.lt
  have hlt1 := HX1.out.lt
  have hml1 := HM1.out.2.1.lt
  clear ho hm1 hk1 HAc HR
  unfold FaultV
  cases b with
  | true =>
    simp only [if_true]
    go_wp2_with fail
    obtain ⟨W2, hW2⟩ : ∃ W2, w1.alloc (Obj.cells #[.int .i64 30, .int .u64 x] 75) = W2 := ⟨_, rfl⟩
    have HF2 : Hid (BoxG W2 w1.heap.size 30 x) := hW2 ▸ BoxG.new w1 30 x
    have HX2 : Hid (BoxG W2 w.heap.size 0 0) := hW2 ▸ HX1.out.below ((Below.refl _ _).alloc (Nat.le_refl _) _)
    have HB2 : Hid (Below w1.heap.size w1 W2) := hW2 ▸ (Below.refl _ _).alloc (Nat.le_refl _) _
    rw [hW2]
    obtain ⟨x0, x1, f0, f1⟩ := HX2.out.cells
    obtain ⟨y0, y1, _, _⟩ := HF2.out.cells
    clear hW2
    go_region_held3 (fun w' => w'.cell? ⟨w1.heap.size, 0, none⟩ = some (.int .i64 30) ∧ w'.cell? ⟨w1.heap.size, 1, none⟩ = some (.int .u64 x)) (go_keep) (fail)
    go_wp2_with fail
    obtain ⟨d0, d1, _⟩ := BoxG.cells (w := ((W2.setCell ⟨w.heap.size, 0, none⟩ (.int .i64 30)).setCell ⟨w.heap.size, 1, none⟩ (.int .u64 x)).drew) (HX2.out.set 30 x)
    refine bodyPost_ret (v := .tuple #[.int .u64 0, .agg #[.int .i64 30, .int .u64 x]]) (by simp [results, Tryz.results22, go_sem, d0, d1]) rfl ?_
    have hk2 : Keeps (fun j => j = w.heap.size) W2 (((W2.setCell ⟨w.heap.size, 0, none⟩ (.int .i64 30)).setCell ⟨w.heap.size, 1, none⟩ (.int .u64 x)).drew) := (Keeps.two W2 w.heap.size (.int .i64 30) (.int .u64 x)).drew
    exact ⟨x, true, HOff.out, rfl, (HM1.out.below HB2.out).keeps hk2 HX2.out.notVB, (HK1.out.trans (Keeps.of_below (S := fun _ => False) HB2.out) (fun _ _ h => h.elim)).trans hk2 (fun i hi e => absurd e (by omega))⟩
  | false =>
    simp only [Bool.false_eq_true, if_false]
    obtain ⟨hx0, hon⟩ := HOff.out.2 rfl
    subst hx0
    have hle := on_le HS.out (hon 0 (by omega))
    clear hon
    go_wp2_with fail
    obtain ⟨W2, hW2⟩ : ∃ W2, w1.alloc (Obj.cells #[.int .i64 0, .int .u64 0] 75) = W2 := ⟨_, rfl⟩
    have HF2 : Hid (BoxG W2 w1.heap.size 0 0) := hW2 ▸ BoxG.new w1 0 0
    have HX2 : Hid (BoxG W2 w.heap.size 0 0) := hW2 ▸ HX1.out.below ((Below.refl _ _).alloc (Nat.le_refl _) _)
    have HB2 : Hid (Below w1.heap.size w1 W2) := hW2 ▸ (Below.refl _ _).alloc (Nat.le_refl _) _
    try rw [hW2]
    have HBy := Lib.hid (rbytes_at (n := n) (a := a) (HM1.out.below HB2.out) hn1 hn8 (by omega))
    clear hW2
    refine HBy.out.mono ?_
    rintro e w3 ⟨rfl, hp3, hb3⟩
    have HB3 : Hid (Below W2.heap.size W2 w3) := hb3
    have HP3 := Lib.hid hp3
    have HF3 : Hid (BoxG w3 w1.heap.size 0 0) := HF2.out.below hb3
    have HX3 : Hid (BoxG w3 w.heap.size 0 0) := HX2.out.below hb3
    have HM3 : Hid (∀ p, M p < 256) := HM1.out.2.2.2.2.2.2.1
    clear hb3 HBy hp3
    go_wp2_with fail
    go_loop [10, 11] (fun nv iv => ∃ i : Nat, i ≤ n ∧ iv = .int .i64 ((i : Int) - 1) ∧ ∃ V : Nat, nv = .int .u64 (V : Int) ∧ Hid (V = Pl.acc (rdTo M a 8 n) i (n - i))) (fun _ iv => (intOf iv + 1).toNat)
    case atStart => exact ⟨n, Nat.le_refl _, rfl, 0, rfl, by show 0 = _; rw [Nat.sub_self]; rfl⟩
    case round =>
      obtain ⟨i, hi, rfl, V, rfl, HV⟩ := hrel
      cases i with
      | zero =>
        obtain ⟨x0, x1, f0, f1⟩ := HX3.out.cells
        obtain ⟨y0, y1, _, _⟩ := HF3.out.cells
        go_wp2_with fail
        go_region_held3 (fun w' => w'.cell? ⟨w1.heap.size, 0, none⟩ = some (.int .i64 0) ∧ w'.cell? ⟨w1.heap.size, 1, none⟩ = some (.int .u64 0)) (go_keep) (fail)
        go_wp2_with fail
        obtain ⟨d0, d1, _⟩ := BoxG.cells (w := ((w3.setCell ⟨w.heap.size, 0, none⟩ (.int .i64 0)).setCell ⟨w.heap.size, 1, none⟩ (.int .u64 0)).drew) (HX3.out.set 0 0)
        refine bodyPost_ret (v := .tuple #[.int .u64 (V : Int), .agg #[.int .i64 0, .int .u64 0]]) (by simp [results, Tryz.results22, go_sem, d0, d1]) rfl ?_
        have hk2 : Keeps (fun j => j = w.heap.size) w3 (((w3.setCell ⟨w.heap.size, 0, none⟩ (.int .i64 0)).setCell ⟨w.heap.size, 1, none⟩ (.int .u64 0)).drew) := (Keeps.two w3 w.heap.size (.int .i64 0) (.int .u64 0)).drew
        have hb13 : Below w1.heap.size w1 w3 := HB2.out.trans (HB3.out.mono HB2.out.size)
        refine ⟨0, false, HOff.out, ?_, (HM1.out.below hb13).keeps hk2 HX3.out.notVB, (HK1.out.trans (Keeps.of_below (S := fun _ => False) hb13) (fun _ _ h => h.elim)).trans hk2 (fun i hi e => absurd e (by omega))⟩
        rw [num_rdTo M a n hn8, HV.out]
        rfl
      | succ i =>
        have hc := HP3.out.cell i (by omega)
        have hzb := HM3.out (a + i)
        have hV : V ≤ 72057594037927935 := by
          have h1 := Pl.acc_lt (rdTo_small HM3.out a 8 n) (i + 1) (n - (i + 1))
          have h2 : 256 ^ (n - (i + 1)) ≤ 256 ^ 7 := Nat.pow_le_pow_right (by omega) (by omega)
          rw [← HV.out] at h1
          have h3 : (256 : Nat) ^ 7 = 72057594037927936 := rfl
          omega
        have HV2 : Hid (V * 256 + M (a + i) = Pl.acc (rdTo M a 8 n) i (n - i)) := by
          show _ = _
          rw [show n - i = n - (i + 1) + 1 by omega]
          show _ = (rdTo M a 8 n).getD i 0 + 256 * Pl.acc (rdTo M a 8 n) (i + 1) (n - (i + 1))
          rw [← HV.out, rdTo_get, if_pos (by omega)]
          omega
        have hin : (i : Int) < (n : Int) := by omega
        generalize M (a + i) = z at hc hzb HV2
        rw [show (((i + 1 : Nat) : Int) - 1) = (i : Int) by omega]
        go_wp2_with fail
        go_round
        case rel => exact ⟨i, by omega, by go_num, V * 256 + z, by go_num, HV2⟩
        case measure => simp [intOf]
end Go.Proofs.YtddgoncbdlhhhaaGreat
/- The document's own machine with pages: its Load of any width. Own work. -/
namespace Go.Proofs.YtddgoncbdlhhhaaGreat
open Go.RowKit Go.Maps Go.Proofs.YtddgoncbdlhhhaaGreat.Sp Wk
set_option maxRecDepth 100000 in
set_option maxHeartbeats 4000000 in
theorem rload_at {w : World} {base m : Nat} {vr vd vp : Value} {ps : List (Int × Nat)} {M : Nat → Nat} {rs ds : List Sp} {L S X a n : Nat} (h : RM w base m vr vd vp ps M L S X) (hw : Wide n) (hr : U64.SV w vr rs) (hd : U64.SV w vd ds) (hs : Sane (rs ++ ds)) (hl : rs.length + ds.length ≤ 64) (ha : a ≤ 18446744073709551615) (hX : X ≤ 4611686018427387904) (hL : L ≤ 4611686018427387904) :
    Calls Tryz.prog 19 #[.pointer (some ⟨m, 0, none⟩), .int .u64 (a : Int), .int .i64 (n : Int)] w (RPkM w base m vr vd vp ps M (rs ++ ds) L S X a n (fun b => if b then 0 else 1)) := by
  have HA : Hid (∀ W, Below w.heap.size w W → Calls Tryz.prog 22 #[.pointer (some ⟨m, 0, none⟩), .int .u64 (a : Int), .int .i64 (n : Int)] W (RPkM W base m vr vd vp ps M (rs ++ ds) L S X a n (fun _ => 0))) := fun W hW => rpeek_at (h.below hW) hw (hr.below hW (Nat.le_refl _)) (hd.below hW (Nat.le_refl _)) hs hl ha hX
  generalize rs ++ ds = LL at *
  have hml := h.2.1.lt
  clear h hr hd hs hl hw
  go_enter Tryz.func19, Tryz.ntmps19
  go_wp2_with fail
  refine (HA.out _ ((Below.refl _ _).alloc (Nat.le_refl _) _)).mono ?_
  rintro e w1 ⟨x, b, ho, rfl, hm1, hk1⟩
  have HOff : Hid (OffR LL a n x b) := ho
  have HX1 : Hid (BoxG w1 w.heap.size 0 0) := (BoxG.new w 0 0).keeps hk1 (show ¬ w.heap.size = m by omega)
  have HM1 : Hid (RM w1 base m vr vd vp ps M L S (up b X)) := hm1
  have HK1 : Hid (Keeps (fun j => j = m) w w1) := (Keeps.alloc (S := fun j => j = m) w _).trans hk1 (fun _ _ e => e)
  obtain ⟨x0, x1, f0, f1⟩ := HX1.out.cells
  have hml1 := HM1.out.2.1.lt
  have hne : w.heap.size ≠ w1.heap.size := Nat.ne_of_lt HX1.out.lt
  have hlt1 := HX1.out.lt
  have c3 := fun X => U64.cell_alloc' X HM1.out.2.1.cells.2.2.2.1
  have g3 := fun X : Obj => (HM1.out.2.1.below ((Below.refl _ _).alloc (Nat.le_refl _) X)).thawed 3
  clear ho hm1 hk1 HA
  unfold FaultV
  cases b with
  | true =>
    simp only [if_true]
    go_wp2_with fail
    obtain ⟨W2, hW2⟩ : ∃ W2, w1.alloc (Obj.cells #[.int .i64 30, .int .u64 x] 75) = W2 := ⟨_, rfl⟩
    have HF2 : Hid (BoxG W2 w1.heap.size 30 x) := hW2 ▸ BoxG.new w1 30 x
    have HX2 : Hid (BoxG W2 w.heap.size 0 0) := hW2 ▸ HX1.out.below ((Below.refl _ _).alloc (Nat.le_refl _) _)
    have HB2 : Hid (Below w1.heap.size w1 W2) := hW2 ▸ (Below.refl _ _).alloc (Nat.le_refl _) _
    rw [hW2]
    obtain ⟨x0, x1, f0, f1⟩ := HX2.out.cells
    obtain ⟨y0, y1, _, _⟩ := HF2.out.cells
    clear hW2 c3 g3
    go_region_held3 (fun w' => w'.cell? ⟨w1.heap.size, 0, none⟩ = some (.int .i64 30) ∧ w'.cell? ⟨w1.heap.size, 1, none⟩ = some (.int .u64 x)) (go_keep) (fail)
    go_wp2_with fail
    obtain ⟨d0, d1, _⟩ := BoxG.cells (w := ((W2.setCell ⟨w.heap.size, 0, none⟩ (.int .i64 30)).setCell ⟨w.heap.size, 1, none⟩ (.int .u64 x)).drew) (HX2.out.set 30 x)
    refine bodyPost_ret (v := .tuple #[.int .u64 0, .agg #[.int .i64 30, .int .u64 x]]) (by simp [results, Tryz.results19, go_sem, d0, d1]) rfl ?_
    have hk2 : Keeps (fun j => j = w.heap.size) W2 (((W2.setCell ⟨w.heap.size, 0, none⟩ (.int .i64 30)).setCell ⟨w.heap.size, 1, none⟩ (.int .u64 x)).drew) := (Keeps.two W2 w.heap.size (.int .i64 30) (.int .u64 x)).drew
    exact ⟨x, true, HOff.out, rfl, (HM1.out.below HB2.out).keeps hk2 HX2.out.notVB, (HK1.out.trans (Keeps.of_below (S := fun _ => False) HB2.out) (fun _ _ h => h.elim)).trans hk2 (fun i hi e => absurd e (by omega))⟩
  | false =>
    simp only [Bool.false_eq_true, if_false]
    obtain ⟨V, hV⟩ : ∃ V : Nat, V = Pl.num 8 (rdTo M a 8 n) := ⟨_, rfl⟩
    rw [← hV]
    have HV := Lib.hid hV
    clear hV
    go_wp2_with fail
    obtain ⟨W2, hW2⟩ : ∃ W2, (w1.setCell ⟨m, 3, none⟩ (.int .i64 ((L : Int) + 1))).alloc (Obj.cells #[.int .i64 0, .int .u64 x] 75) = W2 := ⟨_, rfl⟩
    have HF2 : Hid (BoxG W2 w1.heap.size 0 x) := by rw [← hW2]; exact heap_alloc_newN (by simp [World.setCell]) _
    have HX2 : Hid (BoxG W2 w.heap.size 0 0) := by rw [← hW2]; exact (HX1.out.keeps (Keeps.setCell _ _ _ _) (by omega)).below ((Below.refl _ _).alloc (Nat.le_refl _) _)
    have HK2 : Hid (Keeps (fun j => j = m) w1 W2) := by rw [← hW2]; exact (Keeps.setCell _ _ _ _).trans (Keeps.alloc (S := fun j => j = m) _ _) (fun _ _ e => e)
    have HM2 : Hid (RM W2 base m vr vd vp ps M (L + 1) S X) := by
      rw [← hW2]
      refine ((HM1.out.box (Keeps.setCell w1 m 3 (.int .i64 ((L : Int) + 1))) ?_).1).below ((Below.refl _ _).alloc (Nat.le_refl _) _)
      have h1 : w1.heap[m]? = _ := HM1.out.2.1
      simp [RBox, World.setCell, Array.getElem?_modify, h1, up]
    rw [hW2]
    obtain ⟨x0, x1, f0, f1⟩ := HX2.out.cells
    obtain ⟨y0, y1, _, _⟩ := HF2.out.cells
    clear hW2 c3 g3
    go_region_held3 (fun w' => w'.cell? ⟨w1.heap.size, 0, none⟩ = some (.int .i64 0) ∧ w'.cell? ⟨w1.heap.size, 1, none⟩ = some (.int .u64 x)) (go_keep) (fail)
    go_wp2_with fail
    obtain ⟨d0, d1, _⟩ := BoxG.cells (w := ((W2.setCell ⟨w.heap.size, 0, none⟩ (.int .i64 0)).setCell ⟨w.heap.size, 1, none⟩ (.int .u64 x)).drew) (HX2.out.set 0 x)
    refine bodyPost_ret (v := .tuple #[.int .u64 (V : Int), .agg #[.int .i64 0, .int .u64 x]]) (by simp [results, Tryz.results19, go_sem, d0, d1]) rfl ?_
    have hk2 : Keeps (fun j => j = w.heap.size) W2 (((W2.setCell ⟨w.heap.size, 0, none⟩ (.int .i64 0)).setCell ⟨w.heap.size, 1, none⟩ (.int .u64 x)).drew) := (Keeps.two W2 w.heap.size (.int .i64 0) (.int .u64 x)).drew
    refine ⟨x, false, HOff.out, ?_, HM2.out.keeps hk2 HX2.out.notVB, (HK1.out.trans HK2.out (fun _ _ e => e)).trans hk2 (fun i hi e => absurd e (by omega))⟩
    rw [HV.out]
    rfl
end Go.Proofs.YtddgoncbdlhhhaaGreat
/- The document's own Store, block by block. Own work. -/
namespace Go.Proofs.YtddgoncbdlhhhaaGreat
open Go.RowKit Go.Maps Go.Proofs.YtddgoncbdlhhhaaGreat.Sp Wk
/-- what the document's own Store does -/
def RStF (w : World) (base v : Nat) (vr vd vp : Value) (ps : List (Int × Nat)) (M : Nat → Nat) (LL : List Sp) (L S X a n val : Nat) (e : Ending) (w' : World) : Prop :=
  ∃ x b, OffR LL a n x b ∧ e = .returned (FaultV (if b then 30 else 0) x) ∧ (b = true → RM w' base v vr vd vp ps M L S (X + 1) ∧ Kf v vp ps w vp ps w') ∧ (b = false → ∃ vp' ps', RM w' base v vr vd vp' ps' (putAt M a ((Pl.le 8 val).take n)) L (S + 1) X ∧ Kf v vp ps w vp' ps' w' ∧ ps'.map Prod.fst = addN (ps.map Prod.fst) a n)
set_option maxRecDepth 100000 in
set_option maxHeartbeats 2000000 in
theorem rstore_f {w : World} {base v : Nat} {vr vd vp : Value} {ps : List (Int × Nat)} {M : Nat → Nat} {rs ds : List Sp} {L S X a n val : Nat} (h : RM w base v vr vd vp ps M L S X) (hw : Wide n) (hb : base ≤ w.heap.size) (hr : U64.SV w vr rs) (hd : U64.SV w vd ds) (hs : Sane (rs ++ ds)) (hll : rs.length + ds.length ≤ 64) (ha : a ≤ 18446744073709551615) (hX : X ≤ 4611686018427387904) (hS : S ≤ 4611686018427387904) :
    Calls Tryz.prog 24 #[.pointer (some ⟨v, 0, none⟩), .int .u64 (a : Int), .int .i64 (n : Int), .int .u64 (val : Int)] w (RStF w base v vr vd vp ps M (rs ++ ds) L S X a n val) := by
  have HR := Lib.hid h
  have HAc : Hid (∀ W, Below w.heap.size w W → Calls Tryz.prog 50 #[.pointer (some ⟨v, 0, none⟩), .int .u64 (a : Int), .int .i64 (n : Int)] W (RAsk W v vr vd vp (rs ++ ds) L S X a n)) := fun W hW => raccess_any (h.2.1.below hW) (hr.below hW (Nat.le_refl _)) (hd.below hW (Nat.le_refl _)) hs hll ha (by rcases hw with h | h | h | h <;> omega) hX
  have HS := Lib.hid hs
  have HRt : Hid (∀ W, Calls Tryz.prog 49 #[.int .i64 (n : Int)] W fun e w' => e = .returned (.bool true) ∧ w' = W) := right_wide hw
  have hvl := h.2.1.lt
  generalize rs ++ ds = LL at *
  have hn1 : 1 ≤ n := by rcases hw with h | h | h | h <;> omega
  have hn8 : n ≤ 8 := by rcases hw with h | h | h | h <;> omega
  clear h hr hd hs hll hw
  go_enter Tryz.func24, Tryz.ntmps24
  go_wp2_with fail
  refine (HRt.out _).mono ?_
  rintro e w1 ⟨rfl, rfl⟩
  go_wp2_with fail
  refine (HAc.out _ ((Below.refl _ _).alloc (Nat.le_refl _) _)).mono ?_
  rintro e w1 ⟨x, b, hoff, rfl, hbx, hk1⟩
  have HXX : Hid (x = x) := rfl
  have hkw : Keeps (fun j => j = v) w w1 := (Keeps.alloc (S := fun j => j = v) w _).trans hk1 (fun _ _ e => e)
  have HX1 : Hid (BoxG w1 w.heap.size 0 0) := (BoxG.new w 0 0).keeps hk1 (show ¬ w.heap.size = v by omega)
  obtain ⟨r1, k1⟩ := HR.out.box hkw hbx
  have HR1 := Lib.hid r1
  have HK1 : Hid (Kf v vp ps w vp ps w1) := Kf.one hkw
  have hlt1 := HX1.out.lt
  have HOf := Lib.hid hoff
  clear hkw hbx hk1 r1 k1 HAc HR hoff
  obtain ⟨W3, hW3⟩ : ∃ W3, w1.alloc (Obj.cells #[.int .i64 (if b = true then 30 else 0), .int .u64 x] 75) = W3 := ⟨_, rfl⟩
  have HB3 : Hid (Below w1.heap.size w1 W3) := hW3 ▸ (Below.refl _ _).alloc (Nat.le_refl _) _
  have HF3 : Hid (BoxG W3 w1.heap.size (if b = true then 30 else 0) x) := hW3 ▸ BoxG.new w1 _ _
  have HX3 : Hid (BoxG W3 w.heap.size 0 0) := HX1.out.below HB3.out
  have HR3 : Hid (RM W3 base v vr vd vp ps M L S (up b X)) := HR1.out.below HB3.out
  have HK3 : Hid (Kf v vp ps w vp ps W3) := HK1.out.trans (Kf.below HB3.out)
  have hne : w.heap.size ≠ w1.heap.size := by omega
  have hbs : base ≤ W3.heap.size := by have := HB3.out.size; omega
  have hl3 : w1.heap.size < W3.heap.size := HF3.out.lt
  clear HX1 HR1 HK1 HB3
  unfold FaultV
  cases b with
  | true =>
    simp only [if_true] at hW3 HF3
    obtain ⟨x0, x1, f0, f1⟩ := HX3.out.cells
    obtain ⟨y0, y1, _, _⟩ := HF3.out.cells
    go_wp2_with fail
    clear hW3
    obtain ⟨d0, d1, _⟩ := (HX3.out.set 30 x).cells
    refine bodyPost_ret (v := .agg #[.int .i64 30, .int .u64 x]) (by simp [results, Tryz.results24, go_sem, d0, d1]) rfl ?_
    have hk2 := Keeps.two W3 w.heap.size (.int .i64 30) (.int .u64 x)
    exact ⟨x, true, HOf.out, rfl, fun _ => ⟨HR3.out.keeps hk2 HX3.out.notVB, HK3.out.after hk2 (fun j hj e => by omega)⟩, fun h => absurd h (by decide)⟩
  | false =>
    obtain ⟨rfl, hon⟩ := HOf.out.2 rfl
    have ha8 : (a : Int) ≤ 4294967296 := on_le HS.out (hon 0 (by omega))
    clear hon
    simp only [if_false, Bool.false_eq_true] at hW3 HF3
    have HW3 := Lib.hid hW3
    have HW4 : Hid (BoxG (w1.alloc (Obj.cells #[.int .i64 0, .int .u64 0] 75)) w1.heap.size 0 0) := BoxG.new w1 0 0
    clear hW3
    go_wp2_with fail
    go_loopw [10, 11] (fun bv iv wr => ∃ i : Nat, i ≤ n ∧ iv = .int .i64 (i : Int) ∧ ∃ a1 n1 c1, bv = .slice a1 n1 c1 ∧ Hid (Own wr W3.heap.size (.slice a1 n1 c1) ((Pl.le 8 val).take i)) ∧ Hid (Below W3.heap.size W3 wr)) (fun _ iv _ => n - (intOf iv).toNat)
    case atStart => exact ⟨0, by omega, rfl, none, 0, 0, rfl, own_nil _ _, HW3.out ▸ Below.refl _ _⟩
    case round =>
      obtain ⟨i, hi, rfl, a1, n1, c1, rfl, HO, HB⟩ := hrel
      by_cases hlt : i < n
      · have HO1 := HO
        have HTk : Hid ((Pl.le 8 val).take (i + 1) = (Pl.le 8 val).take i ++ [val / 2 ^ (8 * i) % 256]) := le_take_succ val i (by omega)
        have HXl : Hid (((Pl.le 8 val).take i).length = i) := by show _ = _; rw [List.length_take, Pl.le_length]; omega
        generalize (Pl.le 8 val).take i = xs at *
        clear HO
        have qi : (i : Int) < (n : Int) := by omega
        obtain ⟨r, hrr, hr2⟩ : ∃ r : Nat, (val : Int) / 2 ^ (8 * i) = (r : Int) ∧ Hid (val / 2 ^ (8 * i) = r) := ⟨val / 2 ^ (8 * i), by rw [Int.natCast_ediv, Int.natCast_pow]; rfl, rfl⟩
        have hba : Below W3.heap.size W3 (wr.alloc (Obj.cells #[.int .u8 ((r : Int) % 256)] 5)) := HB.out.alloc HB.out.size _
        have F1 : Hid (Own (wr.alloc (Obj.cells #[.int .u8 ((r : Int) % 256)] 5)) W3.heap.size (.slice a1 n1 c1) xs) := HO1.out.below ((Below.refl _ _).alloc (Nat.le_refl _) _)
        have F2 : Hid (Sl (wr.alloc (Obj.cells #[.int .u8 ((r : Int) % 256)] 5)) (.slice (some ⟨wr.heap.size, 0, none⟩) 1 1) [r % 256]) := sl_one wr r
        have F6 : Hid (xs.length + [r % 256].length ≤ 1099511627776) := by show _ ≤ _; rw [HXl.out]; simp; omega
        have F7 : Hid (W3.heap.size ≤ (wr.alloc (Obj.cells #[.int .u8 ((r : Int) % 256)] 5)).heap.size) := hba.size
        have HBa := Lib.hid hba
        clear hba
        go_wp2_with (refine wpList_append_sl (.tmp 30) (.tmp 37) rfl rfl rfl F1.out rfl F2.out F6.out F7.out ?_)
        intro v' w5 ho hg5 ho3
        obtain ⟨a', n', c', rfl⟩ : ∃ a n c, v' = .slice a n c := by
          rcases ho.2 with ⟨rfl, _⟩ | ⟨g, cap, cur, rfl, _⟩
          · exact ⟨_, _, _, rfl⟩
          · exact ⟨_, _, _, rfl⟩
        have HO5 : Hid (Own w5 W3.heap.size (.slice a' n' c') ((Pl.le 8 val).take (i + 1))) := by
          rw [HTk.out, hr2.out]
          exact ho
        have HB5 : Hid (Below W3.heap.size W3 w5) := HBa.out.grown hg5 F7.out (fun k e => (F1.out.lt k e).1)
        clear ho hg5 ho3
        go_wp2_with fail
        exact ⟨⟨i + 1, by omega, by go_num, a', n', c', rfl, HO5, HB5⟩, by simp [intOf]; omega⟩
      · obtain rfl : i = n := by omega
        have hxl : ((Pl.le 8 val).take i).length = i := by rw [List.length_take, Pl.le_length]; omega
        obtain ⟨g, cap, hv, hg0, hg1, hg2, hg3⟩ := HO.out.form (by omega)
        rw [hxl] at hv hg2
        cases hv
        have hRr := HR3.out.below HB.out
        have HRr := Lib.hid hRr
        have hgl : ∀ x ∈ ps, x.2 ≠ g := fun x hx e => by
          have h1 := (HR3.out.2.2.2.1 x hx).2.lt
          have h2 := (HO.out.lt g rfl).1
          omega
        have HLy : Hid (Calls Tryz.prog 54 #[.pointer (some ⟨v, 0, none⟩), .int .u64 (a : Int), .slice (some ⟨g, 0, none⟩) i c1, .int .i64 (i : Int), .int .u8 0] wr fun e w' => e = .returned (.tuple #[]) ∧ ∃ vp' ps', RM w' base v vr vd vp' ps' (putAt M a ((Pl.le 8 val).take i)) L S X ∧ Kf v vp ps wr vp' ps' w' ∧ ps'.map Prod.fst = addN (ps.map Prod.fst) a i) := rlay_f HRr.out (Nat.le_trans hbs HB.out.size) HO.out.p8 hgl hxl (fun z hz => Pl.le_small 8 val z (List.mem_of_mem_take hz)) hn8 hg2 (by omega)
        have hwb : W3.heap.size ≤ wr.heap.size := HB.out.size
        clear hRr HO hxl hg0 hg1 hg2 hg3 hgl
        go_wp2_with fail
        refine HLy.out.mono ?_
        rintro e w6 ⟨rfl, vp', ps', hr6, hk6, hg6⟩
        have HR6 := Lib.hid hr6
        have HG6 := Lib.hid hg6
        have HK6 := Lib.hid hk6
        have HX6 : Hid (BoxG w6 w.heap.size 0 0) := (HX3.out.below HB.out).keeps hk6.keeps (fun e => (HX3.out.below HB.out).notVB _ (HRr.out.fo e) rfl)
        have HF6 : Hid (BoxG w6 w1.heap.size 0 0) := (HF3.out.below HB.out).keeps hk6.keeps (fun e => (HF3.out.below HB.out).notVB _ (HRr.out.fo e) rfl)
        clear HLy hr6 hk6 hg6 HRr
        obtain ⟨_, _, _, _, c4, _⟩ := HR6.out.2.1.cells
        have f4 := HR6.out.2.1.thawed 4
        obtain ⟨x0, x1, f0, f1⟩ := HX6.out.cells
        obtain ⟨y0, y1, _, _⟩ := HF6.out.cells
        have hv1 : v ≠ w.heap.size := by omega
        have hv2 : v ≠ w1.heap.size := by omega
        go_wp2_with fail
        have hk7 := Keeps.setCell w6 v 4 (.int .i64 ((S : Int) + 1))
        have hx7 : BoxG (w6.setCell ⟨v, 4, none⟩ (.int .i64 ((S : Int) + 1))) w.heap.size 0 0 := HX6.out.keeps hk7 (fun e => hv1 (show w.heap.size = v from e).symm)
        have hb7 : RBox (w6.setCell ⟨v, 4, none⟩ (.int .i64 ((S : Int) + 1))) v vr vd vp' L (S + 1) X := by
          have h1 : w6.heap[v]? = _ := HR6.out.2.1
          simp [RBox, World.setCell, Array.getElem?_modify, h1]
        obtain ⟨r7, _⟩ := HR6.out.box hk7 hb7
        have k7 : Kf v vp' ps' w6 vp' ps' (w6.setCell ⟨v, 4, none⟩ (.int .i64 ((S : Int) + 1))) := Kf.one hk7
        generalize w6.setCell ⟨v, 4, none⟩ (.int .i64 ((S : Int) + 1)) = W7 at *
        obtain ⟨d0, d1, _⟩ := (hx7.set 0 0).cells
        refine bodyPost_ret (v := .agg #[.int .i64 0, .int .u64 0]) (by simp [results, Tryz.results24, go_sem, d0, d1]) rfl ?_
        have hk8 := Keeps.two W7 w.heap.size (.int .i64 0) (.int .u64 0)
        exact ⟨0, false, HOf.out, rfl, fun h => absurd h (by decide), fun _ => ⟨vp', ps', r7.keeps hk8 hx7.notVB, (((HK3.out.trans (Kf.below HB.out)).trans HK6.out).trans k7).after hk8 (fun j hj e => by omega), HG6.out⟩⟩
end Go.Proofs.YtddgoncbdlhhhaaGreat
