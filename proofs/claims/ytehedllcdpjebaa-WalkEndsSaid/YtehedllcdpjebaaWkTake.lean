/- Load and Fetch over a machine. Own work. -/
import Derived.Test.YtehedllcdpjebaaWkReach
namespace Go.Proofs.Ytehedllcdpjebaa
open Go.RowKit Go.Maps Go.Proofs.Ytehedllcdpjebaa.Sp Wk
theorem rowT_lt {w : World} {t : TypeId} {g : Nat} {L : List Nat} (h : RowT w t g L) : g < w.heap.size := (Array.getElem?_eq_some_iff.1 h).1
theorem rowT_keeps {Z : Nat → Prop} {w w' : World} {t : TypeId} {g : Nat} {L : List Nat} (h : RowT w t g L) (hk : Keeps Z w w') (hn : ¬ Z g) : RowT w' t g L := (hk.block g (rowT_lt h) hn).trans h
theorem rowT_below {w w' : World} {t : TypeId} {g : Nat} {L : List Nat} (h : RowT w t g L) (hb : Below w.heap.size w w') : RowT w' t g L := (hb.block g (rowT_lt h)).trans h
theorem rowT_cell {w : World} {t : TypeId} {g : Nat} {L : List Nat} (h : RowT w t g L) (j : Nat) (hj : j < L.length) : w.cell? ⟨g, j, none⟩ = some (.int .u8 ((L[j] : Nat) : Int)) := by
  rw [cell_of_row _ _ _ _ _ _ h]
  simp [bvs, hj]
theorem rowT_thawed {w : World} {t : TypeId} {g : Nat} {L : List Nat} (h : RowT w t g L) (j : Nat) : w.frozen? ⟨g, j, none⟩ = false := by simp [World.frozen?, show w.heap[g]? = _ from h]
theorem rowT_set {w : World} {t : TypeId} {g : Nat} {L : List Nat} (h : RowT w t g L) (j z : Nat) : RowT (w.setCell ⟨g, j, none⟩ (.int .u8 ((z : Nat) : Int))) t g (L.set j z) := by
  have h0 : w.heap[g]? = some (.cells (bvs L).toArray t (0, 0)) := h
  unfold RowT
  have e : bvs (L.set j z) = (bvs L).set j (.int .u8 ((z : Nat) : Int)) := by unfold bvs; rw [List.map_set]
  rw [e]
  simp [World.setCell, Array.getElem?_modify, h0]
/-- the first i bytes of an access -/
noncomputable def upB (LL : List Sp) (M : Nat → Nat) (t v : Nat) (acc : Int) (i : Nat) : List Nat := (List.range 8).map fun j => if j < i then M (ad LL M t v acc j).1 else 0
theorem upB_len (LL : List Sp) (M : Nat → Nat) (t v : Nat) (acc : Int) (i : Nat) : (upB LL M t v acc i).length = 8 := by simp [upB]
theorem upB_zero (LL : List Sp) (M : Nat → Nat) (t v : Nat) (acc : Int) : upB LL M t v acc 0 = [0, 0, 0, 0, 0, 0, 0, 0] := by
  apply List.ext_getElem
  · simp [upB]
  · intro j h1 h2
    have hj : j < 8 := by simpa [upB] using h1
    simp only [upB, List.getElem_map, Nat.not_lt_zero, if_false]
    rcases (by omega : j = 0 ∨ j = 1 ∨ j = 2 ∨ j = 3 ∨ j = 4 ∨ j = 5 ∨ j = 6 ∨ j = 7) with rfl | rfl | rfl | rfl | rfl | rfl | rfl | rfl <;> rfl
theorem upB_step (LL : List Sp) (M : Nat → Nat) (t v : Nat) (acc : Int) (i : Nat) : (upB LL M t v acc i).set i (M (ad LL M t v acc i).1) = upB LL M t v acc (i + 1) := by
  apply List.ext_getElem
  · simp [upB]
  · intro j h1 h2
    rw [List.getElem_set]
    by_cases e : i = j
    · subst e; simp [upB]
    · rw [if_neg e]
      simp only [upB, List.getElem_map, List.getElem_range]
      by_cases h : j < i
      · rw [if_pos h, if_pos (by omega)]
      · rw [if_neg h, if_neg (by omega)]
theorem upB_small {LL : List Sp} {M : Nat → Nat} (hM : ∀ p, M p < 256) (t v : Nat) (acc : Int) (i : Nat) : ∀ z ∈ upB LL M t v acc i, z < 256 := by
  intro z hz
  obtain ⟨j, _, rfl⟩ := List.mem_map.1 hz
  split
  · exact hM _
  · omega
theorem num_one (M : Nat → Nat) (a : Nat) : Pl.num 8 (rdTo M a 8 1) = M a := by
  have : rdTo M a 8 1 = [M a, 0, 0, 0, 0, 0, 0, 0] := by simp [rdTo, bytesAt]
  rw [this]
  simp [Pl.num, Pl.acc]
/-- what an access answers -/
noncomputable def takeN (LL : List Sp) (M : Nat → Nat) (t v : Nat) (acc : Int) (k : Nat) : Nat := Pl.num 8 (upB LL M t v acc k)
noncomputable def takeV (LL : List Sp) (M : Nat → Nat) (t v : Nat) (acc : Int) (k : Nat) : Nat × Int × Nat := match reachF LL M t v acc k with | some (why, x) => (0, why, x) | none => (takeN LL M t v acc k, 0, 0)
theorem Mx.small {w : World} {m B : Nat} {V : Value × Value × Value} {T : Nat → Option Nat} {M : Nat → Nat} {rs ds : List Sp} {n : Nat} (h : Mx w m B V T M rs ds n) : ∀ p, M p < 256 := by
  obtain ⟨L, S, X, _, _, _, h4⟩ := h
  exact h4.held.2.2.2.2.1
theorem reach_why {LL : List Sp} {M : Nat → Nat} {t v : Nat} {acc : Int} {k : Nat} {why : Int} {x : Nat} (h : reachF LL M t v acc k = some (why, x)) : why ≠ 0 := by
  unfold reachF at h
  split at h
  · rename_i y hy
    cases h
    unfold trBad at hy
    obtain ⟨i, _, hi⟩ := List.exists_of_findSome?_eq_some hy
    split at hi
    · cases hi
    · cases hi; assumption
  · unfold offBad at h
    obtain ⟨i, _, hi⟩ := List.exists_of_findSome?_eq_some h
    split at hi
    · cases hi
    · cases hi; decide
set_option maxRecDepth 100000 in
set_option maxHeartbeats 8000000 in
theorem take_any {w : World} {m B : Nat} {V : Value × Value × Value} {T : Nat → Option Nat} {M : Nat → Nat} {rs ds : List Sp} {n t v k : Nat} {acc : Int} (h : Mx w m B V T M rs ds n) (ht : t ≤ 18446744073709551615) (hn : n ≤ 4611686018427370000) (hk : Wide k) :
    Calls Try.prog 15 #[MemV m, .int .u64 (t : Int), .int .u64 (v : Int), .int .i64 (k : Int), .int .i64 acc] w fun e w' => e = .returned (.tuple #[.int .u64 ((takeV (rs ++ ds) M t v acc k).1 : Int), FaultV (takeV (rs ++ ds) M t v acc k).2.1 ((takeV (rs ++ ds) M t v acc k).2.2 : Int)]) ∧ Hid (Mx w' m B V T M rs ds (n + 32)) ∧ Hid (Keeps (fun j => j = m) w w') := by
  have HM : Hid (Mx w m B V T M rs ds n) := h
  have hml := h.lt
  have k8 : k ≤ 8 := by rcases hk with h | h | h | h <;> omega
  have HSm : Hid (∀ p, M p < 256) := h.small
  have HRe : Hid (Calls Try.prog 16 #[MemV m, .int .u64 (t : Int), .int .u64 (v : Int), .int .i64 (k : Int), .int .i64 acc] (w.alloc (Obj.cells #[.int .i64 0, .int .u64 0] 27)) fun e w' => ReachP (w.alloc (Obj.cells #[.int .i64 0, .int .u64 0] 27)) (rs ++ ds) M t v acc k e w' ∧ Hid (Mx w' m B V T M rs ds (n + 16)) ∧ Hid (Keeps (fun j => j = m) (w.alloc (Obj.cells #[.int .i64 0, .int .u64 0] 27)) w')) := reached_any (h.below ((Below.refl _ _).alloc (Nat.le_refl _) _)) ht (by omega) hk
  have HLd : Hid (∀ W i, i < k → ∀ a : Nat, a ≤ 18446744073709551615 → On (rs ++ ds) (a : Int) → Mx W m B V T M rs ds (n + 16 + i) → Calls Try.prog 104 #[.pointer (some ⟨m, 0, none⟩), .int .u64 (a : Int), .int .i64 1] W fun e w' => e = .returned (.tuple #[.int .u64 ((M a : Nat) : Int), FaultV 0 0]) ∧ Hid (Mx w' m B V T M rs ds (n + 16 + i + 1)) ∧ Hid (Keeps (fun j => j = m) W w')) := fun W i hi a ha hon ⟨L, S, X, h1, h2, h3, h4⟩ => by
    refine (load_any (n := 1) h4 ha (Or.inl rfl) (by omega) (by omega)).mono ?_
    rintro e w' ⟨x, b, ho, rfl, hm, hk⟩
    cases b with
    | true =>
      obtain ⟨i, hi, _, _, hn, _⟩ := ho.1 rfl
      obtain rfl : i = 0 := by omega
      exact absurd (by simpa using hon) hn
    | false =>
      have hx := (ho.2 rfl).1
      subst hx
      rw [num_one]
      exact ⟨rfl, ⟨L + 1, S, X, by omega, by omega, by omega, hm⟩, hk⟩
  have HAd : Hid (∀ i, (ad (rs ++ ds) M t v acc i).1 ≤ 18446744073709551615) := fun i => adrF_le _ _ _ _ _
  have hme : ∀ (w : World) (p : Option Addr), (method 272 22 (.pointer p) "Load").run Try.prog w = .ok (104, .pointer p) w := fun _ _ => by kernel_rfl
  generalize rs ++ ds = LL at *
  have HX0 : Hid (BoxF (w.alloc (Obj.cells #[.int .i64 0, .int .u64 0] 27)) w.heap.size 0 0) := BoxF.new w 0 0
  unfold MemV at HRe ⊢
  clear hk h
  go_enter Try.func15, Try.ntmps15
  go_wp2_with fail
  refine HRe.out.mono ?_
  rintro e w1 ⟨hP, HM1, HK1⟩
  have HX1 : Hid (BoxF w1 w.heap.size 0 0) := HX0.out.keeps HK1.out (by omega)
  have HKw1 : Hid (Keeps (fun j => j = m) w w1) := (Keeps.alloc (S := fun j => j = m) w _).trans HK1.out (fun _ _ e => e)
  have hlt1 := HX1.out.lt
  clear HRe HX0 HK1
  rcases hP with ⟨why, x, hre, rfl⟩ | ⟨hre, hall, g, rfl, hg, hrow⟩
  · have HV : Hid (takeV LL M t v acc k = (0, why, x)) := by show _ = _; rw [takeV, hre]
    have h0 := reach_why hre
    have h0e : (why == 0) = false := by simpa using h0
    obtain ⟨W3, hW3⟩ : ∃ W3, w1.alloc (Obj.cells #[.int .i64 why, .int .u64 (x : Int)] 27) = W3 := ⟨_, rfl⟩
    have HF3 : Hid (BoxF W3 w1.heap.size why x) := hW3 ▸ BoxF.new w1 why x
    have HX3 : Hid (BoxF W3 w.heap.size 0 0) := hW3 ▸ HX1.out.below ((Below.refl _ _).alloc (Nat.le_refl _) _)
    have HB3 : Hid (Below w1.heap.size w1 W3) := hW3 ▸ (Below.refl _ _).alloc (Nat.le_refl _) _
    have hne : w.heap.size ≠ w1.heap.size := by omega
    obtain ⟨x0, x1, f0, f1⟩ := HX3.out.cells
    obtain ⟨y0, y1, _, _⟩ := HF3.out.cells
    unfold FaultV
    clear hre
    go_wp2_with fail
    clear hW3
    go_region_held3 (fun w' => w'.cell? ⟨w1.heap.size, 0, none⟩ = some (.int .i64 why) ∧ w'.cell? ⟨w1.heap.size, 1, none⟩ = some (.int .u64 (x : Int))) (go_keep) (fail)
    go_wp2_with fail
    obtain ⟨d0, d1, _⟩ := BoxF.cells (w := ((W3.setCell ⟨w.heap.size, 0, none⟩ (.int .i64 why)).setCell ⟨w.heap.size, 1, none⟩ (.int .u64 (x : Int))).drew) (HX3.out.set why x)
    refine bodyPost_ret (v := .tuple #[.int .u64 0, .agg #[.int .i64 why, .int .u64 (x : Int)]]) (by simp [results, Try.results15, go_sem, d0, d1]) rfl ?_
    have hk2 : Keeps (fun j => j = w.heap.size) W3 (((W3.setCell ⟨w.heap.size, 0, none⟩ (.int .i64 why)).setCell ⟨w.heap.size, 1, none⟩ (.int .u64 (x : Int))).drew) := (Keeps.two W3 w.heap.size (.int .i64 why) (.int .u64 (x : Int))).drew
    exact ⟨by rw [HV.out]; rfl, ((HM1.out.mono (by omega)).below HB3.out).keeps hk2 (fun j hj e => by have := HM.out.mine_lt hj; omega), (HKw1.out.trans (Keeps.of_below (S := fun _ => False) HB3.out) (fun _ _ h => h.elim)).trans hk2 (fun i hi e => absurd e (by omega))⟩
  · have HV : Hid (takeV LL M t v acc k = (takeN LL M t v acc k, 0, 0)) := by show _ = _; rw [takeV, hre]
    have HAll : Hid (∀ j, j < k → (ad LL M t v acc j).2 = 0 ∧ On LL ((ad LL M t v acc j).1 : Int)) := hall
    have HRw : Hid (RowA w1 g (upA LL M t v acc k k)) := hrow
    have hgl : w.heap.size < g ∧ g < w1.heap.size := ⟨by simp at hg; omega, hrow.lt⟩
    obtain ⟨hg1, hg2⟩ := hgl
    clear hre hall hrow hg
    unfold FaultV
    go_wp2_with fail
    obtain ⟨W2, hW2⟩ : ∃ W2, (w1.alloc (Obj.cells #[.int .i64 0, .int .u64 0] 27)).alloc (Obj.cells #[.int .u8 0, .int .u8 0, .int .u8 0, .int .u8 0, .int .u8 0, .int .u8 0, .int .u8 0, .int .u8 0] 93) = W2 := ⟨_, rfl⟩
    have HB2 : Hid (Below w1.heap.size w1 W2) := hW2 ▸ ((Below.refl _ _).alloc (Nat.le_refl _) _).alloc (by simp) _
    have HR2 : Hid (RowT W2 93 (w1.heap.size + 1) (upB LL M t v acc 0)) := by rw [← hW2, upB_zero]; exact heap_alloc_new' (by simp) _
    rw [hW2]
    have s8 := slice8_all
    have HX2 : Hid (BoxF W2 w.heap.size 0 0) := HX1.out.below HB2.out
    have HRw2 : Hid (RowA W2 g (upA LL M t v acc k k)) := HRw.out.below HB2.out
    have HM2 : Hid (Mx W2 m B V T M rs ds (n + 16)) := HM1.out.below HB2.out
    have HKw2 : Hid (Keeps (fun j => j = m) w W2) := HKw1.out.trans (Keeps.of_below (S := fun _ => False) HB2.out) (fun _ _ h => h.elim)
    clear hW2 HX1 HRw HM1 HKw1
    generalize hgb : w1.heap.size + 1 = gb at *
    have hgb2 : g < gb := by omega
    clear hgb
    go_loopw [36] (fun iv wr => ∃ q : Nat, q ≤ k ∧ iv = .int .i64 (q : Int) ∧ Hid (RowA wr g (upA LL M t v acc k k)) ∧ Hid (RowT wr 93 gb (upB LL M t v acc q)) ∧ Hid (BoxF wr w.heap.size 0 0) ∧ Hid (Mx wr m B V T M rs ds (n + 16 + q)) ∧ Hid (Keeps (fun j => j = m) w wr)) (fun iv _ => k - (intOf iv).toNat)
    case atStart => exact ⟨0, Nat.zero_le _, rfl, HRw2, HR2, HX2, HM2, HKw2⟩
    case round =>
      clear HRw2 HR2 HX2 HM2 HKw2
      obtain ⟨q, hq, rfl, HRw, HR, HXr, HMr, HKr⟩ := hrel
      by_cases hlt : q < k
      · have y0 := HRw.out.cell q (by rw [upA_len]; exact hlt)
        rw [upA_get _ _ _ _ _ _ _ hlt] at y0
        have HCl := Lib.hid (HLd.out wr q hlt (ad LL M t v acc q).1 (HAd.out q) (HAll.out q hlt).2 HMr.out)
        have HUp : Hid ((upB LL M t v acc q).set q (M (ad LL M t v acc q).1) = upB LL M t v acc (q + 1)) := upB_step _ _ _ _ _ _
        have hsm := HSm.out (ad LL M t v acc q).1
        generalize (ad LL M t v acc q).1 = r1 at *
        generalize M r1 = z at *
        have qi : (q : Int) < (k : Int) := by omega
        have q8 : (q : Int) < 8 := by omega
        have q8n : q < 8 := by omega
        have hz8 : IntKind.u8.wrap (z : Int) = (z : Int) := by rw [IntKind.wrap_u8]; omega
        go_wp2_with fail
        refine HCl.out.mono ?_
        rintro e w3 ⟨rfl, HM3, HK3⟩
        have hm1 : m < w.heap.size := hml
        have HX3 : Hid (BoxF w3 w.heap.size 0 0) := HXr.out.keeps HK3.out (by omega)
        have HR3 : Hid (RowT w3 93 gb (upB LL M t v acc q)) := rowT_keeps HR.out HK3.out (by omega)
        have HRw3 : Hid (RowA w3 g (upA LL M t v acc k k)) := HRw.out.keeps HK3.out (by omega)
        have HKw3 : Hid (Keeps (fun j => j = m) w w3) := HKr.out.trans HK3.out (fun _ _ e => e)
        have hlt3 := rowT_lt HR3.out
        obtain ⟨c0, hc0⟩ : ∃ c0, (upB LL M t v acc q)[q]'(by rw [upB_len]; exact q8n) = c0 := ⟨_, rfl⟩
        have u0 := rowT_cell (rowT_below HR3.out ((Below.refl _ _).alloc (Nat.le_refl _) (Obj.cells #[.int .i64 0, .int .u64 0] 27))) q (by rw [upB_len]; exact q8n)
        have u1 := rowT_thawed (rowT_below HR3.out ((Below.refl _ _).alloc (Nat.le_refl _) (Obj.cells #[.int .i64 0, .int .u64 0] 27))) q
        rw [hc0] at u0
        clear HCl HK3 y0 hc0
        unfold FaultV
        go_wp2_with fail
        go_roundw
        case rel =>
          have hk3 : Keeps (fun j => j = gb) w3 (w3.setCell ⟨gb, q, none⟩ (.int .u8 ((z : Nat) : Int))) := Keeps.setCell _ _ _ _
          have hb4 : Below (w3.setCell ⟨gb, q, none⟩ (.int .u8 ((z : Nat) : Int))).heap.size (w3.setCell ⟨gb, q, none⟩ (.int .u8 ((z : Nat) : Int))) ((w3.setCell ⟨gb, q, none⟩ (.int .u8 ((z : Nat) : Int))).alloc (Obj.cells #[.int .i64 0, .int .u64 0] 27)) := (Below.refl _ _).alloc (Nat.le_refl _) _
          have t1 := (HX3.out.keeps hk3 (show ¬ (w.heap.size = gb) by omega)).below hb4
          have t2 := (HKw3.out.trans hk3 (fun i hi e => absurd (show i = gb from e) (by omega))).trans (Keeps.of_below (S := fun _ => False) hb4) (fun _ _ h => h.elim)
          have t3 := (HRw3.out.keeps hk3 (show ¬ (g = gb) by omega)).below hb4
          have t4 := rowT_below (rowT_set HR3.out q z) hb4
          rw [HUp.out] at t4
          exact ⟨q + 1, by omega, by go_num, t3, t4, t1, (HM3.out.keeps hk3 (fun j hj e => by have := HM.out.mine_lt hj; have e : j = gb := e; omega)).below hb4, t2⟩
        case measure => simp [intOf]; omega
      · obtain rfl : q = k := by omega
        have HGt := Lib.hid (get_u64_yes (rowT_sl HR.out (upB_len _ _ _ _ _ _) (upB_small HSm.out _ _ _ _)) (Nat.le_of_eq (upB_len _ _ _ _ _ _).symm))
        have HNm : Hid (Pl.num 8 (upB LL M t v acc q) = takeN LL M t v acc q) := rfl
        rw [HNm.out] at HGt
        generalize takeN LL M t v acc q = N at *
        obtain ⟨x0, x1, f0, f1⟩ := HXr.out.cells
        go_wp2_with (first | (go_at_call 31; refine HGt.out.mono ?_; rintro e w' ⟨rfl, hw⟩; have hw := hw.symm; subst hw))
        obtain ⟨d0, d1, _⟩ := (HXr.out.set 0 0).cells
        refine bodyPost_ret (v := .tuple #[.int .u64 (N : Int), .agg #[.int .i64 0, .int .u64 0]]) (by simp [results, Try.results15, go_sem, d0, d1]) rfl ?_
        have hk2 := Keeps.two wr w.heap.size (.int .i64 0) (.int .u64 0)
        exact ⟨by rw [HV.out]; rfl, (HMr.out.mono (by omega)).keeps hk2 (fun j hj e => by have := HM.out.mine_lt hj; omega), HKr.out.trans hk2 (fun i hi e => absurd e (by omega))⟩
end Go.Proofs.Ytehedllcdpjebaa
