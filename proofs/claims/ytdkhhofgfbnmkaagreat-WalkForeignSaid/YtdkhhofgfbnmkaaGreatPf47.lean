import Derived.Test.YtdkhhofgfbnmkaaGreatPf15
import Derived.Test.YtdkhhofgfbnmkaaGreatPf46
import Derived.Deep.RegionHeld3
/- walk's accesses of a width that is none, over any memory. Own work. -/
namespace Go.Proofs.YtdkhhofgfbnmkaaGreat
open Go.RowKit Go.Maps Go.Proofs.YtdkhhofgfbnmkaaGreat.Sp Wk Lv
theorem not_wide_eq {n : Int} (h : ∀ k : Nat, Wide k → n ≠ (k : Int)) : (n == 1) = false ∧ (n == 2) = false ∧ (n == 4) = false ∧ (n == 8) = false := by
  have h1 := h 1 (.inl rfl)
  have h2 := h 2 (.inr (.inl rfl))
  have h3 := h 4 (.inr (.inr (.inl rfl)))
  have h4 := h 8 (.inr (.inr (.inr rfl)))
  exact ⟨by simpa using h1, by simpa using h2, by simpa using h3, by simpa using h4⟩
set_option maxRecDepth 100000 in
set_option maxHeartbeats 2000000 in
theorem reached_no {T : TypeId} {u : Value} {t vi : Nat} {n acc : Int} (h : ∀ k : Nat, Wide k → n ≠ (k : Int)) (w : World) :
    Calls Tryz.prog 49 #[.iface T u, .int .u64 (t : Int), .int .u64 (vi : Int), .int .i64 n, .int .i64 acc] w fun e w' => e = .returned (.tuple #[.slice none 0 0, .agg #[.int .i64 31, .int .u64 (vi : Int)]]) ∧ Below w.heap.size w w' := by
  obtain ⟨h1, h2, h3, h4⟩ := not_wide_eq h
  clear h
  obtain ⟨s0, s1, _, _⟩ := (BoxF.new w 31 (vi : Int)).cells
  go_enter Tryz.func49, Tryz.ntmps49
  go_wp2_with fail
  refine bodyPost_ret (v := .tuple #[.slice none 0 0, .agg #[.int .i64 31, .int .u64 (vi : Int)]]) (by simp [results, Tryz.results49, go_sem, s0, s1]) rfl ?_
  exact ⟨rfl, (Below.refl _ _).alloc (Nat.le_refl _) _⟩
set_option maxRecDepth 100000 in
set_option maxHeartbeats 2000000 in
theorem take_no {T : TypeId} {u : Value} {t vi : Nat} {n acc : Int} (h : ∀ k : Nat, Wide k → n ≠ (k : Int)) (w : World) :
    Calls Tryz.prog 35 #[.iface T u, .int .u64 (t : Int), .int .u64 (vi : Int), .int .i64 n, .int .i64 acc] w fun e w' => e = .returned (.tuple #[.int .u64 0, .agg #[.int .i64 31, .int .u64 (vi : Int)]]) ∧ Below w.heap.size w w' := by
  have HRe : Hid (∀ W, Calls Tryz.prog 49 #[.iface T u, .int .u64 (t : Int), .int .u64 (vi : Int), .int .i64 n, .int .i64 acc] W fun e w' => e = .returned (.tuple #[.slice none 0 0, .agg #[.int .i64 31, .int .u64 (vi : Int)]]) ∧ Below W.heap.size W w') := fun W => reached_no h W
  clear h
  go_enter Tryz.func35, Tryz.ntmps35
  go_wp2_with fail
  refine (HRe.out _).mono ?_
  rintro e w2 ⟨rfl, hb2⟩
  have hb1 : Below w.heap.size w w2 := ((Below.refl _ w).alloc (Nat.le_refl _) _).trans (hb2.mono (by simp))
  have hz : BoxF w2 w.heap.size 0 0 := (hb2.block w.heap.size (by simp)).trans (BoxF.new w 0 0)
  clear HRe
  obtain ⟨W3, hW3⟩ : ∃ W3, w2.alloc (Obj.cells #[.int .i64 31, .int .u64 (vi : Int)] 57) = W3 := ⟨_, rfl⟩
  have hb3 : Below w2.heap.size w2 W3 := hW3 ▸ (Below.refl _ _).alloc (Nat.le_refl _) _
  have hf3 : BoxF W3 w2.heap.size 31 (vi : Int) := hW3 ▸ BoxF.new w2 31 (vi : Int)
  have hz3 := hz.below hb3
  have hlz : w.heap.size < w2.heap.size := hz.lt
  obtain ⟨g0, g1, _, _⟩ := hf3.cells
  obtain ⟨q0, q1, q2, q3⟩ := hz3.cells
  obtain ⟨s0, s1, _, _⟩ := (hz3.set 31 (vi : Int)).cells
  have HF : Hid (Below w.heap.size w ((W3.setCell ⟨w.heap.size, 0, none⟩ (.int .i64 31)).setCell ⟨w.heap.size, 1, none⟩ (.int .u64 (vi : Int)))) := by
    have k1 := hb1.trans (hb3.mono hb1.size)
    exact k1.trans ((Keeps.two W3 w.heap.size (.int .i64 31) (.int .u64 (vi : Int))).below k1.size (fun j _ e => by omega))
  have HX3 := Lib.hid hz3
  have hne : w.heap.size ≠ w2.heap.size := by omega
  clear hz hz3 hb1 hb2 hb3 hf3
  go_wp2_with fail
  clear hW3
  go_region_held3 (fun w' => w'.cell? ⟨w2.heap.size, 0, none⟩ = some (.int .i64 31) ∧ w'.cell? ⟨w2.heap.size, 1, none⟩ = some (.int .u64 (vi : Int))) (go_keep) (fail)
  go_wp2_with fail
  obtain ⟨d0, d1, _⟩ := BoxF.cells (w := ((W3.setCell ⟨w.heap.size, 0, none⟩ (.int .i64 31)).setCell ⟨w.heap.size, 1, none⟩ (.int .u64 (vi : Int))).drew) (HX3.out.set 31 (vi : Int))
  refine bodyPost_ret (v := .tuple #[.int .u64 0, .agg #[.int .i64 31, .int .u64 (vi : Int)]]) (by simp [results, Tryz.results35, go_sem, d0, d1]) rfl ?_
  exact ⟨rfl, HF.out.trans (Below.mono ⟨rfl, rfl, rfl, Nat.le_refl _, fun _ _ => rfl⟩ HF.out.size)⟩
set_option maxRecDepth 100000 in
set_option maxHeartbeats 2000000 in
theorem wload_no {T : TypeId} {u : Value} {t vi : Nat} {n : Int} (h : ∀ k : Nat, Wide k → n ≠ (k : Int)) (w : World) :
    Calls Tryz.prog 14 #[.iface T u, .int .u64 (t : Int), .int .u64 (vi : Int), .int .i64 n] w fun e w' => e = .returned (.tuple #[.int .u64 0, .agg #[.int .i64 31, .int .u64 (vi : Int)]]) ∧ Below w.heap.size w w' := by
  have HT := Lib.hid (take_no (T := T) (u := u) (t := t) (vi := vi) (acc := 1) h (w.alloc (Obj.cells #[.int .i64 0, .int .u64 0] 57)))
  clear h
  go_enter Tryz.func14, Tryz.ntmps14
  go_wp2_with fail
  refine HT.out.mono ?_
  rintro e w2 ⟨rfl, hb2⟩
  have hb1 : Below w.heap.size w w2 := ((Below.refl _ w).alloc (Nat.le_refl _) _).trans (hb2.mono (by simp))
  have hz : BoxF w2 w.heap.size 0 0 := (hb2.block w.heap.size (by simp)).trans (BoxF.new w 0 0)
  clear HT hb2
  obtain ⟨q0, q1, q2, q3⟩ := hz.cells
  obtain ⟨s0, s1, _, _⟩ := (hz.set 31 (vi : Int)).cells
  have HF : Hid (Below w.heap.size w ((w2.setCell ⟨w.heap.size, 0, none⟩ (.int .i64 31)).setCell ⟨w.heap.size, 1, none⟩ (.int .u64 (vi : Int)))) := hb1.trans ((Keeps.two w2 w.heap.size (.int .i64 31) (.int .u64 (vi : Int))).below hb1.size (fun j _ e => by omega))
  clear hb1 hz
  go_wp2_with fail
  refine bodyPost_ret (v := .tuple #[.int .u64 0, .agg #[.int .i64 31, .int .u64 (vi : Int)]]) (by simp [results, Tryz.results14, go_sem, s0, s1]) rfl ?_
  exact ⟨rfl, HF.out⟩
set_option maxRecDepth 100000 in
set_option maxHeartbeats 2000000 in
theorem wfetch_no {T : TypeId} {u : Value} {t vi : Nat} {n : Int} (h : ∀ k : Nat, Wide k → n ≠ (k : Int)) (w : World) :
    Calls Tryz.prog 15 #[.iface T u, .int .u64 (t : Int), .int .u64 (vi : Int), .int .i64 n] w fun e w' => e = .returned (.tuple #[.int .u64 0, .agg #[.int .i64 31, .int .u64 (vi : Int)]]) ∧ Below w.heap.size w w' := by
  have HT := Lib.hid (take_no (T := T) (u := u) (t := t) (vi := vi) (acc := 3) h (w.alloc (Obj.cells #[.int .i64 0, .int .u64 0] 57)))
  clear h
  go_enter Tryz.func15, Tryz.ntmps15
  go_wp2_with fail
  refine HT.out.mono ?_
  rintro e w2 ⟨rfl, hb2⟩
  have hb1 : Below w.heap.size w w2 := ((Below.refl _ w).alloc (Nat.le_refl _) _).trans (hb2.mono (by simp))
  have hz : BoxF w2 w.heap.size 0 0 := (hb2.block w.heap.size (by simp)).trans (BoxF.new w 0 0)
  clear HT hb2
  obtain ⟨q0, q1, q2, q3⟩ := hz.cells
  obtain ⟨s0, s1, _, _⟩ := (hz.set 31 (vi : Int)).cells
  have HF : Hid (Below w.heap.size w ((w2.setCell ⟨w.heap.size, 0, none⟩ (.int .i64 31)).setCell ⟨w.heap.size, 1, none⟩ (.int .u64 (vi : Int)))) := hb1.trans ((Keeps.two w2 w.heap.size (.int .i64 31) (.int .u64 (vi : Int))).below hb1.size (fun j _ e => by omega))
  clear hb1 hz
  go_wp2_with fail
  refine bodyPost_ret (v := .tuple #[.int .u64 0, .agg #[.int .i64 31, .int .u64 (vi : Int)]]) (by simp [results, Tryz.results15, go_sem, s0, s1]) rfl ?_
  exact ⟨rfl, HF.out⟩
set_option maxRecDepth 100000 in
set_option maxHeartbeats 2000000 in
theorem wstore_no {T : TypeId} {u : Value} {t vi : Nat} {n val : Int} (h : ∀ k : Nat, Wide k → n ≠ (k : Int)) (w : World) :
    Calls Tryz.prog 24 #[.iface T u, .int .u64 (t : Int), .int .u64 (vi : Int), .int .i64 n, .int .u64 val] w fun e w' => e = .returned (.agg #[.int .i64 31, .int .u64 (vi : Int)]) ∧ Below w.heap.size w w' := by
  have HRe : Hid (∀ W, Calls Tryz.prog 49 #[.iface T u, .int .u64 (t : Int), .int .u64 (vi : Int), .int .i64 n, .int .i64 2] W fun e w' => e = .returned (.tuple #[.slice none 0 0, .agg #[.int .i64 31, .int .u64 (vi : Int)]]) ∧ Below W.heap.size W w') := fun W => reached_no h W
  clear h
  go_enter Tryz.func24, Tryz.ntmps24
  go_wp2_with fail
  refine (HRe.out _).mono ?_
  rintro e w2 ⟨rfl, hb2⟩
  have hb1 : Below w.heap.size w w2 := ((Below.refl _ w).alloc (Nat.le_refl _) _).trans (hb2.mono (by simp))
  have hz : BoxF w2 w.heap.size 0 0 := (hb2.block w.heap.size (by simp)).trans (BoxF.new w 0 0)
  clear HRe
  obtain ⟨W3, hW3⟩ : ∃ W3, w2.alloc (Obj.cells #[.int .i64 31, .int .u64 (vi : Int)] 57) = W3 := ⟨_, rfl⟩
  have hb3 : Below w2.heap.size w2 W3 := hW3 ▸ (Below.refl _ _).alloc (Nat.le_refl _) _
  have hf3 : BoxF W3 w2.heap.size 31 (vi : Int) := hW3 ▸ BoxF.new w2 31 (vi : Int)
  have hz3 := hz.below hb3
  have hlz : w.heap.size < w2.heap.size := hz.lt
  obtain ⟨g0, g1, _, _⟩ := hf3.cells
  obtain ⟨q0, q1, q2, q3⟩ := hz3.cells
  obtain ⟨s0, s1, _, _⟩ := (hz3.set 31 (vi : Int)).cells
  have HF : Hid (Below w.heap.size w ((W3.setCell ⟨w.heap.size, 0, none⟩ (.int .i64 31)).setCell ⟨w.heap.size, 1, none⟩ (.int .u64 (vi : Int)))) := by
    have k1 := hb1.trans (hb3.mono hb1.size)
    exact k1.trans ((Keeps.two W3 w.heap.size (.int .i64 31) (.int .u64 (vi : Int))).below k1.size (fun j _ e => by omega))
  clear hz hz3 hb1 hb2 hb3 hf3
  go_wp2_with fail
  refine bodyPost_ret (v := .agg #[.int .i64 31, .int .u64 (vi : Int)]) (by simp [results, Tryz.results24, go_sem, s0, s1]) rfl ?_
  exact ⟨rfl, HF.out⟩
end Go.Proofs.YtdkhhofgfbnmkaaGreat
/- WalkPlays: leaves: the calls that it makes. Own work. -/
namespace Go.Proofs.YtdkhhofgfbnmkaaGreat
open Go.RowKit Go.Maps Go.Shelf Go.Proofs.YtdkhhofgfbnmkaaGreat.Sp Wk Lv
attribute [local go_sem] Oper.semAt_some
set_option maxRecDepth 100000 in
set_option maxHeartbeats 4000000 in
theorem within_lv {n : Int} (w : World) :
    Calls Tryz.prog 51 #[.int .i64 n, .int .i64 (-1), .int .i64 2000] w fun e w' => ∃ r : Int, e = .returned (.int .i64 r) ∧ -1 ≤ r ∧ r ≤ 2000 ∧ w' = w := by
  obtain ⟨q, hq⟩ : ∃ q, q = n.tmod 2002 := ⟨_, rfl⟩
  have hq1 : -2002 < q ∧ q < 2002 := by
    have := Int.tmod_lt_of_pos n (b := 2002) (by omega)
    have := Int.lt_tmod_of_pos n (b := 2002) (by omega)
    omega
  go_enter Tryz.func51, Tryz.ntmps51
  go_wp2_with fail
  all_goals (go_ret; rw [← hq] at *)
  · exact ⟨_, rfl, by omega, by omega, rfl⟩
  · exact ⟨_, rfl, by omega, by omega, rfl⟩
/-- what the document's Leaves tells, of whatever number -/
noncomputable def WantF (LL : List Sp) (M : Nat → Nat) (root : Nat) (z : Int) : List T7 :=
  if z < 1 then [] else if root % 4096 = 0 then ((allS (lkL (fL LL M)) ydL ctL root { s := [], left := z.toNat, go := true }).s).map td else [(0, 0, 134217728, false, false, false, 42)]
set_option maxRecDepth 100000 in
set_option maxHeartbeats 2000000 in
theorem rleaves_no {pm : Value} {root : Nat} {z : Int} (hz : z < 1) (w : World) :
    Calls Tryz.prog 52 #[pm, .int .u64 (root : Int), .int .i64 z] w fun e w' => e = .returned (.tuple #[.slice none 0 0, .bool false]) ∧ Below w.heap.size w w' := by
  go_enter Tryz.func52, Tryz.ntmps52
  go_wp2_with fail
  go_ret2
  exact ⟨rfl, Below.refl _ _⟩
theorem rleaves_want {w0 w : World} {base v : Nat} {vr vd vp : Value} {ps : List (Int × Nat)} {M : Nat → Nat} {L S X : Nat} {rs ds : List Sp} {root : Nat} {z : Int} (h : RM w base v vr vd vp ps M L S X) (hb0 : Below w0.heap.size w0 w) (hv0 : w0.heap.size ≤ v) (hvs : v < w.heap.size) (hr : U64.SV w0 vr rs) (hd : U64.SV w0 vd ds) (hs : Sane (rs ++ ds)) (hll : rs.length + ds.length ≤ 64) (hX : X ≤ 4611686018427387904) (hz : z ≤ 2000) (hrt : root ≤ 18446744073709551615) :
    Calls Tryz.prog 52 #[.pointer (some ⟨v, 0, none⟩), .int .u64 (root : Int), .int .i64 z] w fun e w' => ∃ vt b, e = .returned (.tuple #[vt, .bool b]) ∧ WantAt w.heap.size w'.heap.size w' vt (WantF (rs ++ ds) M root z) ∧ RM w' base v vr vd vp ps M L S X ∧ Keeps (fun j => j = v) w w' := by
  by_cases h1 : z < 1
  · refine (rleaves_no h1 w).mono ?_
    rintro e w' ⟨rfl, hb⟩
    refine ⟨_, _, rfl, ?_, h.below hb, Keeps.of_below hb⟩
    rw [WantF, if_pos h1]
    exact ⟨none, 0, rfl, Nat.le_refl _, Nat.zero_le _, .inl rfl⟩
  · obtain ⟨most, rfl⟩ : ∃ k : Nat, z = (k : Int) := ⟨z.toNat, by omega⟩
    refine (rleaves_td (most := most) h hb0 hv0 hvs hr hd hs hll hX (by omega) (by omega) hrt).mono ?_
    rintro e w' ⟨vt, b, rfl, _, hbad, hgood, hm, hk⟩
    refine ⟨vt, b, rfl, ?_, hm, hk⟩
    rw [WantF, if_neg h1]
    by_cases hr4 : root % 4096 = 0
    · rw [if_pos hr4, Int.toNat_natCast]
      exact want_own (hgood hr4)
    · rw [if_neg hr4]
      obtain ⟨_, g, rfl, hg1, hg2⟩ := hbad hr4
      refine ⟨_, 1, rfl, Nat.le_refl _, by unfold maxLen; omega, .inr ⟨g, _, rfl, hg1, (Array.getElem?_eq_some_iff.1 hg2).1, hg2, fun j hj k hk => ?_⟩⟩
      obtain rfl : j = 0 := by simpa using hj
      match k, hk with
      | 0, _ => rfl
      | 1, _ => rfl
      | 2, _ => rfl
      | 3, _ => rfl
      | 4, _ => rfl
      | 5, _ => rfl
      | 6, _ => rfl
set_option maxRecDepth 100000 in
set_option maxHeartbeats 4000000 in
theorem leaves1_no {n l0 Bm Bo Br : Nat} {most : Int} {T : TypeId} {u : Value} {W : World} (hBm : W.cell? ⟨Bm, 0, none⟩ = some (.iface T u)) (hBo : W.cell? ⟨Bo, 0, none⟩ = some (.int .i64 most)) (h1 : most < 1) :
    CallsIn Fence.wide n Tryz.prog 78 #[.func (.yield l0) #[] #[], .pointer (some ⟨Bm, 0, none⟩), .pointer (some ⟨Bo, 0, none⟩), .pointer (some ⟨Br, 0, none⟩)] W fun e W' => (∃ v, e = .returned v) ∧ Below W.heap.size W W' := by
  have hbm : Bm < W.heap.size := World.block_lt_of_cell? W _ hBm
  have hbo : Bo < W.heap.size := World.block_lt_of_cell? W _ hBo
  refine callsIn_of_wp_marks Tryz.func78 rfl trivial ?_ rfl
  simp only [Tryz.ntmps78, List.size_toArray, List.length_cons, List.length_nil, Nat.reduceAdd, Nat.reduceSub, Array.replicate_succ, Array.replicate_zero, List.push_toArray, List.append_toArray, List.nil_append, List.cons_append]
  gi_wp2
  exact ⟨_, results_none rfl _ _ _, ⟨_, rfl⟩, (Below.refl _ W).alloc (Nat.le_refl _) _⟩
end Go.Proofs.YtdkhhofgfbnmkaaGreat
/- The number that bytes are: walk's and the document's. Own work. -/
namespace Go.Proofs.YtdkhhofgfbnmkaaGreat
open Go.RowKit Go.Maps Go.Proofs.YtdkhhofgfbnmkaaGreat.Sp Wk Lv
theorem num8 (a b c d e f g h : Nat) : Pl.num 8 [a, b, c, d, e, f, g, h] = a + 256 * (b + 256 * (c + 256 * (d + 256 * (e + 256 * (f + 256 * (g + 256 * h)))))) := by
  simp [Pl.num, Pl.acc]
theorem take_sm {LL : List Sp} {M : Nat → Nat} {t v k : Nat} {acc : Int} (hk : Wide k) : takeN LL M t v acc k = smB (fun j => M (ad LL M t v acc j).1) k := by
  unfold takeN
  rw [show upB LL M t v acc k = [if 0 < k then M (ad LL M t v acc 0).1 else 0, if 1 < k then M (ad LL M t v acc 1).1 else 0, if 2 < k then M (ad LL M t v acc 2).1 else 0, if 3 < k then M (ad LL M t v acc 3).1 else 0, if 4 < k then M (ad LL M t v acc 4).1 else 0, if 5 < k then M (ad LL M t v acc 5).1 else 0, if 6 < k then M (ad LL M t v acc 6).1 else 0, if 7 < k then M (ad LL M t v acc 7).1 else 0] from rfl, num8]
  rcases hk with rfl | rfl | rfl | rfl
  all_goals
    simp only [smB, Nat.reduceLT, if_true, if_false, Nat.lt_irrefl, Nat.reducePow, Nat.pow_zero, Nat.mul_one]
    omega
end Go.Proofs.YtdkhhofgfbnmkaaGreat
