import Derived.Test.YtdkhhofgfbnmkaaGreatPf14
import Derived.Test.YtdkhhofgfbnmkaaGreatPf13
/- Load and Fetch over a machine. Own work. -/
namespace Go.Proofs.YtdkhhofgfbnmkaaGreat
open Go.RowKit Go.Maps Go.Proofs.YtdkhhofgfbnmkaaGreat.Sp Wk
theorem rowT_lt {w : World} {t : TypeId} {g : Nat} {L : List Nat} (h : RowT w t g L) : g < w.heap.size := (Array.getElem?_eq_some_iff.1 h).1
theorem rowT_keeps {Z : Nat → Prop} {w w' : World} {t : TypeId} {g : Nat} {L : List Nat} (h : RowT w t g L) (hk : Keeps Z w w') (hn : ¬ Z g) : RowT w' t g L := (hk.block g (rowT_lt h) hn).trans h
theorem rowT_below {w w' : World} {t : TypeId} {g : Nat} {L : List Nat} (h : RowT w t g L) (hb : Below w.heap.size w w') : RowT w' t g L := (hb.block g (rowT_lt h)).trans h
theorem rowT_cell {w : World} {t : TypeId} {g : Nat} {L : List Nat} (h : RowT w t g L) (j : Nat) (hj : j < L.length) : w.cell? ⟨g, j, none⟩ = some (.int .u8 ((L[j] : Nat) : Int)) := by
  rw [cell_of_row _ _ _ _ _ _ h]
  simp [bvs, hj]
theorem rowT_thawed {w : World} {t : TypeId} {g : Nat} {L : List Nat} (h : RowT w t g L) (j : Nat) : w.frozen? ⟨g, j, none⟩ = false := by simp [World.frozen?, show w.heap[g]? = _ from h]
theorem rowT_set {w : World} {t : TypeId} {g : Nat} {L : List Nat} (h : RowT w t g L) (j z : Nat) : RowT (w.setCell ⟨g, j, none⟩ (.int .u8 ((z : Nat) : Int))) t g (L.set j z) := by
  have h0 : w.heap[g]? = some (.cells (bvs L).toArray t (0, 0)) := h
  unfold RowT
  have e : bvs (L.set j z) = (bvs L).set j (.int .u8 ((z : Nat) : Int)) := by unfold bvs; rw [List.map_set]
  rw [e]
  simp [World.setCell, Array.getElem?_modify, h0]
/-- the first i bytes of an access -/
noncomputable def upB (LL : List Sp) (M : Nat → Nat) (t v : Nat) (acc : Int) (i : Nat) : List Nat := (List.range 8).map fun j => if j < i then M (ad LL M t v acc j).1 else 0
theorem upB_len (LL : List Sp) (M : Nat → Nat) (t v : Nat) (acc : Int) (i : Nat) : (upB LL M t v acc i).length = 8 := by simp [upB]
theorem upB_zero (LL : List Sp) (M : Nat → Nat) (t v : Nat) (acc : Int) : upB LL M t v acc 0 = [0, 0, 0, 0, 0, 0, 0, 0] := by
  apply List.ext_getElem
  · simp [upB]
  · intro j h1 h2
    have hj : j < 8 := by simpa [upB] using h1
    simp only [upB, List.getElem_map, Nat.not_lt_zero, if_false]
    rcases (by omega : j = 0 ∨ j = 1 ∨ j = 2 ∨ j = 3 ∨ j = 4 ∨ j = 5 ∨ j = 6 ∨ j = 7) with rfl | rfl | rfl | rfl | rfl | rfl | rfl | rfl <;> rfl
theorem upB_step (LL : List Sp) (M : Nat → Nat) (t v : Nat) (acc : Int) (i : Nat) : (upB LL M t v acc i).set i (M (ad LL M t v acc i).1) = upB LL M t v acc (i + 1) := by
  apply List.ext_getElem
  · simp [upB]
  · intro j h1 h2
    rw [List.getElem_set]
    by_cases e : i = j
    · subst e; simp [upB]
    · rw [if_neg e]
      simp only [upB, List.getElem_map, List.getElem_range]
      by_cases h : j < i
      · rw [if_pos h, if_pos (by omega)]
      · rw [if_neg h, if_neg (by omega)]
theorem upB_small {LL : List Sp} {M : Nat → Nat} (hM : ∀ p, M p < 256) (t v : Nat) (acc : Int) (i : Nat) : ∀ z ∈ upB LL M t v acc i, z < 256 := by
  intro z hz
  obtain ⟨j, _, rfl⟩ := List.mem_map.1 hz
  split
  · exact hM _
  · omega
theorem num_one (M : Nat → Nat) (a : Nat) : Pl.num 8 (rdTo M a 8 1) = M a := by
  have : rdTo M a 8 1 = [M a, 0, 0, 0, 0, 0, 0, 0] := by simp [rdTo, bytesAt]
  rw [this]
  simp [Pl.num, Pl.acc]
/-- what an access answers -/
noncomputable def takeN (LL : List Sp) (M : Nat → Nat) (t v : Nat) (acc : Int) (k : Nat) : Nat := Pl.num 8 (upB LL M t v acc k)
noncomputable def takeV (LL : List Sp) (M : Nat → Nat) (t v : Nat) (acc : Int) (k : Nat) : Nat × Int × Nat := match reachF LL M t v acc k with | some (why, x) => (0, why, x) | none => (takeN LL M t v acc k, 0, 0)
theorem Mx.small {w : World} {m B : Nat} {V : Value × Value × Value} {T : Nat → Option Nat} {M : Nat → Nat} {rs ds : List Sp} {n : Nat} (h : Mx w m B V T M rs ds n) : ∀ p, M p < 256 := by
  obtain ⟨L, S, X, _, _, _, h4⟩ := h
  exact h4.held.2.2.2.2.1
theorem reach_why {LL : List Sp} {M : Nat → Nat} {t v : Nat} {acc : Int} {k : Nat} {why : Int} {x : Nat} (h : reachF LL M t v acc k = some (why, x)) : why ≠ 0 := by
  unfold reachF at h
  split at h
  · rename_i y hy
    cases h
    unfold trBad at hy
    obtain ⟨i, _, hi⟩ := List.exists_of_findSome?_eq_some hy
    split at hi
    · cases hi
    · cases hi; assumption
  · unfold offBad at h
    obtain ⟨i, _, hi⟩ := List.exists_of_findSome?_eq_some h
    split at hi
    · cases hi
    · cases hi; decide
set_option maxRecDepth 100000 in
set_option maxHeartbeats 8000000 in
theorem take_any {w : World} {m B : Nat} {V : Value × Value × Value} {T : Nat → Option Nat} {M : Nat → Nat} {rs ds : List Sp} {n t v k : Nat} {acc : Int} (h : Mx w m B V T M rs ds n) (ht : t ≤ 18446744073709551615) (hn : n ≤ 4611686018427370000) (hk : Wide k) :
    Calls Tryz.prog 35 #[MemV m, .int .u64 (t : Int), .int .u64 (v : Int), .int .i64 (k : Int), .int .i64 acc] w fun e w' => e = .returned (.tuple #[.int .u64 ((takeV (rs ++ ds) M t v acc k).1 : Int), FaultV (takeV (rs ++ ds) M t v acc k).2.1 ((takeV (rs ++ ds) M t v acc k).2.2 : Int)]) ∧ Hid (Mx w' m B V T M rs ds (n + 32)) ∧ Hid (Keeps (fun j => j = m) w w') := by
  have HM : Hid (Mx w m B V T M rs ds n) := h
  have hml := h.lt
  have k8 : k ≤ 8 := by rcases hk with h | h | h | h <;> omega
  have HSm : Hid (∀ p, M p < 256) := h.small
  have HRe : Hid (Calls Tryz.prog 49 #[MemV m, .int .u64 (t : Int), .int .u64 (v : Int), .int .i64 (k : Int), .int .i64 acc] (w.alloc (Obj.cells #[.int .i64 0, .int .u64 0] 57)) fun e w' => ReachP (w.alloc (Obj.cells #[.int .i64 0, .int .u64 0] 57)) (rs ++ ds) M t v acc k e w' ∧ Hid (Mx w' m B V T M rs ds (n + 16)) ∧ Hid (Keeps (fun j => j = m) (w.alloc (Obj.cells #[.int .i64 0, .int .u64 0] 57)) w')) := reached_any (h.below ((Below.refl _ _).alloc (Nat.le_refl _) _)) ht (by omega) hk
  have HLd : Hid (∀ W i, i < k → ∀ a : Nat, a ≤ 18446744073709551615 → On (rs ++ ds) (a : Int) → Mx W m B V T M rs ds (n + 16 + i) → Calls Tryz.prog 139 #[.pointer (some ⟨m, 0, none⟩), .int .u64 (a : Int), .int .i64 1] W fun e w' => e = .returned (.tuple #[.int .u64 ((M a : Nat) : Int), FaultV 0 0]) ∧ Hid (Mx w' m B V T M rs ds (n + 16 + i + 1)) ∧ Hid (Keeps (fun j => j = m) W w')) := fun W i hi a ha hon ⟨L, S, X, h1, h2, h3, h4⟩ => by
    refine (load_any (n := 1) h4 ha (Or.inl rfl) (by omega) (by omega)).mono ?_
    rintro e w' ⟨x, b, ho, rfl, hm, hk⟩
    cases b with
    | true =>
      obtain ⟨i, hi, _, _, hn, _⟩ := ho.1 rfl
      obtain rfl : i = 0 := by omega
      exact absurd (by simpa using hon) hn
    | false =>
      have hx := (ho.2 rfl).1
      subst hx
      rw [num_one]
      exact ⟨rfl, ⟨L + 1, S, X, by omega, by omega, by omega, hm⟩, hk⟩
  have HAd : Hid (∀ i, (ad (rs ++ ds) M t v acc i).1 ≤ 18446744073709551615) := fun i => adrF_le _ _ _ _ _
  have hme : ∀ (w : World) (p : Option Addr), (method 319 28 (.pointer p) "Load").run Tryz.prog w = .ok (139, .pointer p) w := fun _ _ => by kernel_rfl
  generalize rs ++ ds = LL at *
  have HX0 : Hid (BoxF (w.alloc (Obj.cells #[.int .i64 0, .int .u64 0] 57)) w.heap.size 0 0) := BoxF.new w 0 0
  unfold MemV at HRe ⊢
  clear hk h
  go_enter Tryz.func35, Tryz.ntmps35
  go_wp2_with fail
  refine HRe.out.mono ?_
  rintro e w1 ⟨hP, HM1, HK1⟩
  have HX1 : Hid (BoxF w1 w.heap.size 0 0) := HX0.out.keeps HK1.out (by omega)
  have HKw1 : Hid (Keeps (fun j => j = m) w w1) := (Keeps.alloc (S := fun j => j = m) w _).trans HK1.out (fun _ _ e => e)
  have hlt1 := HX1.out.lt
  clear HRe HX0 HK1
  rcases hP with ⟨why, x, hre, rfl⟩ | ⟨hre, hall, g, rfl, hg, hrow⟩
  · have HV : Hid (takeV LL M t v acc k = (0, why, x)) := by show _ = _; rw [takeV, hre]
    have h0 := reach_why hre
    have h0e : (why == 0) = false := by simpa using h0
    obtain ⟨W3, hW3⟩ : ∃ W3, w1.alloc (Obj.cells #[.int .i64 why, .int .u64 (x : Int)] 57) = W3 := ⟨_, rfl⟩
    have HF3 : Hid (BoxF W3 w1.heap.size why x) := hW3 ▸ BoxF.new w1 why x
    have HX3 : Hid (BoxF W3 w.heap.size 0 0) := hW3 ▸ HX1.out.below ((Below.refl _ _).alloc (Nat.le_refl _) _)
    have HB3 : Hid (Below w1.heap.size w1 W3) := hW3 ▸ (Below.refl _ _).alloc (Nat.le_refl _) _
    have hne : w.heap.size ≠ w1.heap.size := by omega
    obtain ⟨x0, x1, f0, f1⟩ := HX3.out.cells
    obtain ⟨y0, y1, _, _⟩ := HF3.out.cells
    unfold FaultV
    clear hre
    go_wp2_with fail
    clear hW3
    go_region_held3 (fun w' => w'.cell? ⟨w1.heap.size, 0, none⟩ = some (.int .i64 why) ∧ w'.cell? ⟨w1.heap.size, 1, none⟩ = some (.int .u64 (x : Int))) (go_keep) (fail)
    go_wp2_with fail
    obtain ⟨d0, d1, _⟩ := BoxF.cells (w := ((W3.setCell ⟨w.heap.size, 0, none⟩ (.int .i64 why)).setCell ⟨w.heap.size, 1, none⟩ (.int .u64 (x : Int))).drew) (HX3.out.set why x)
    refine bodyPost_ret (v := .tuple #[.int .u64 0, .agg #[.int .i64 why, .int .u64 (x : Int)]]) (by simp [results, Tryz.results35, go_sem, d0, d1]) rfl ?_
    have hk2 : Keeps (fun j => j = w.heap.size) W3 (((W3.setCell ⟨w.heap.size, 0, none⟩ (.int .i64 why)).setCell ⟨w.heap.size, 1, none⟩ (.int .u64 (x : Int))).drew) := (Keeps.two W3 w.heap.size (.int .i64 why) (.int .u64 (x : Int))).drew
    exact ⟨by rw [HV.out]; rfl, ((HM1.out.mono (by omega)).below HB3.out).keeps hk2 (fun j hj e => by have := HM.out.mine_lt hj; omega), (HKw1.out.trans (Keeps.of_below (S := fun _ => False) HB3.out) (fun _ _ h => h.elim)).trans hk2 (fun i hi e => absurd e (by omega))⟩
  · have HV : Hid (takeV LL M t v acc k = (takeN LL M t v acc k, 0, 0)) := by show _ = _; rw [takeV, hre]
    have HAll : Hid (∀ j, j < k → (ad LL M t v acc j).2 = 0 ∧ On LL ((ad LL M t v acc j).1 : Int)) := hall
    have HRw : Hid (RowA w1 g (upA LL M t v acc k k)) := hrow
    have hgl : w.heap.size < g ∧ g < w1.heap.size := ⟨by simp at hg; omega, hrow.lt⟩
    obtain ⟨hg1, hg2⟩ := hgl
    clear hre hall hrow hg
    unfold FaultV
    go_wp2_with fail
    obtain ⟨W2, hW2⟩ : ∃ W2, (w1.alloc (Obj.cells #[.int .i64 0, .int .u64 0] 57)).alloc (Obj.cells #[.int .u8 0, .int .u8 0, .int .u8 0, .int .u8 0, .int .u8 0, .int .u8 0, .int .u8 0, .int .u8 0] 129) = W2 := ⟨_, rfl⟩
    have HB2 : Hid (Below w1.heap.size w1 W2) := hW2 ▸ ((Below.refl _ _).alloc (Nat.le_refl _) _).alloc (by simp) _
    have HR2 : Hid (RowT W2 129 (w1.heap.size + 1) (upB LL M t v acc 0)) := by rw [← hW2, upB_zero]; exact heap_alloc_new' (by simp) _
    rw [hW2]
    have s8 := slice8_all
    have HX2 : Hid (BoxF W2 w.heap.size 0 0) := HX1.out.below HB2.out
    have HRw2 : Hid (RowA W2 g (upA LL M t v acc k k)) := HRw.out.below HB2.out
    have HM2 : Hid (Mx W2 m B V T M rs ds (n + 16)) := HM1.out.below HB2.out
    have HKw2 : Hid (Keeps (fun j => j = m) w W2) := HKw1.out.trans (Keeps.of_below (S := fun _ => False) HB2.out) (fun _ _ h => h.elim)
    clear hW2 HX1 HRw HM1 HKw1
    generalize hgb : w1.heap.size + 1 = gb at *
    have hgb2 : g < gb := by omega
    clear hgb
    go_loopw [36] (fun iv wr => ∃ q : Nat, q ≤ k ∧ iv = .int .i64 (q : Int) ∧ Hid (RowA wr g (upA LL M t v acc k k)) ∧ Hid (RowT wr 129 gb (upB LL M t v acc q)) ∧ Hid (BoxF wr w.heap.size 0 0) ∧ Hid (Mx wr m B V T M rs ds (n + 16 + q)) ∧ Hid (Keeps (fun j => j = m) w wr)) (fun iv _ => k - (intOf iv).toNat)
    case atStart => exact ⟨0, Nat.zero_le _, rfl, HRw2, HR2, HX2, HM2, HKw2⟩
    case round =>
      clear HRw2 HR2 HX2 HM2 HKw2
      obtain ⟨q, hq, rfl, HRw, HR, HXr, HMr, HKr⟩ := hrel
      by_cases hlt : q < k
      · have y0 := HRw.out.cell q (by rw [upA_len]; exact hlt)
        rw [upA_get _ _ _ _ _ _ _ hlt] at y0
        have HCl := Lib.hid (HLd.out wr q hlt (ad LL M t v acc q).1 (HAd.out q) (HAll.out q hlt).2 HMr.out)
        have HUp : Hid ((upB LL M t v acc q).set q (M (ad LL M t v acc q).1) = upB LL M t v acc (q + 1)) := upB_step _ _ _ _ _ _
        have hsm := HSm.out (ad LL M t v acc q).1
        generalize (ad LL M t v acc q).1 = r1 at *
        generalize M r1 = z at *
        have qi : (q : Int) < (k : Int) := by omega
        have q8 : (q : Int) < 8 := by omega
        have q8n : q < 8 := by omega
        have hz8 : IntKind.u8.wrap (z : Int) = (z : Int) := by rw [IntKind.wrap_u8]; omega
        go_wp2_with fail
        refine HCl.out.mono ?_
        rintro e w3 ⟨rfl, HM3, HK3⟩
        have hm1 : m < w.heap.size := hml
        have HX3 : Hid (BoxF w3 w.heap.size 0 0) := HXr.out.keeps HK3.out (by omega)
        have HR3 : Hid (RowT w3 129 gb (upB LL M t v acc q)) := rowT_keeps HR.out HK3.out (by omega)
        have HRw3 : Hid (RowA w3 g (upA LL M t v acc k k)) := HRw.out.keeps HK3.out (by omega)
        have HKw3 : Hid (Keeps (fun j => j = m) w w3) := HKr.out.trans HK3.out (fun _ _ e => e)
        have hlt3 := rowT_lt HR3.out
        obtain ⟨c0, hc0⟩ : ∃ c0, (upB LL M t v acc q)[q]'(by rw [upB_len]; exact q8n) = c0 := ⟨_, rfl⟩
        have u0 := rowT_cell (rowT_below HR3.out ((Below.refl _ _).alloc (Nat.le_refl _) (Obj.cells #[.int .i64 0, .int .u64 0] 57))) q (by rw [upB_len]; exact q8n)
        have u1 := rowT_thawed (rowT_below HR3.out ((Below.refl _ _).alloc (Nat.le_refl _) (Obj.cells #[.int .i64 0, .int .u64 0] 57))) q
        rw [hc0] at u0
        clear HCl HK3 y0 hc0
        unfold FaultV
        go_wp2_with fail
        go_roundw
        case rel =>
          have hk3 : Keeps (fun j => j = gb) w3 (w3.setCell ⟨gb, q, none⟩ (.int .u8 ((z : Nat) : Int))) := Keeps.setCell _ _ _ _
          have hb4 : Below (w3.setCell ⟨gb, q, none⟩ (.int .u8 ((z : Nat) : Int))).heap.size (w3.setCell ⟨gb, q, none⟩ (.int .u8 ((z : Nat) : Int))) ((w3.setCell ⟨gb, q, none⟩ (.int .u8 ((z : Nat) : Int))).alloc (Obj.cells #[.int .i64 0, .int .u64 0] 57)) := (Below.refl _ _).alloc (Nat.le_refl _) _
          have t1 := (HX3.out.keeps hk3 (show ¬ (w.heap.size = gb) by omega)).below hb4
          have t2 := (HKw3.out.trans hk3 (fun i hi e => absurd (show i = gb from e) (by omega))).trans (Keeps.of_below (S := fun _ => False) hb4) (fun _ _ h => h.elim)
          have t3 := (HRw3.out.keeps hk3 (show ¬ (g = gb) by omega)).below hb4
          have t4 := rowT_below (rowT_set HR3.out q z) hb4
          rw [HUp.out] at t4
          exact ⟨q + 1, by omega, by go_num, t3, t4, t1, (HM3.out.keeps hk3 (fun j hj e => by have := HM.out.mine_lt hj; have e : j = gb := e; omega)).below hb4, t2⟩
        case measure => simp [intOf]; omega
      · obtain rfl : q = k := by omega
        have HGt := Lib.hid (get_u64_yes (rowT_sl HR.out (upB_len _ _ _ _ _ _) (upB_small HSm.out _ _ _ _)) (Nat.le_of_eq (upB_len _ _ _ _ _ _).symm))
        have HNm : Hid (Pl.num 8 (upB LL M t v acc q) = takeN LL M t v acc q) := rfl
        rw [HNm.out] at HGt
        generalize takeN LL M t v acc q = N at *
        obtain ⟨x0, x1, f0, f1⟩ := HXr.out.cells
        go_wp2_with (first | (go_at_call 58; refine HGt.out.mono ?_; rintro e w' ⟨rfl, hw⟩; have hw := hw.symm; subst hw))
        obtain ⟨d0, d1, _⟩ := (HXr.out.set 0 0).cells
        refine bodyPost_ret (v := .tuple #[.int .u64 (N : Int), .agg #[.int .i64 0, .int .u64 0]]) (by simp [results, Tryz.results35, go_sem, d0, d1]) rfl ?_
        have hk2 := Keeps.two wr w.heap.size (.int .i64 0) (.int .u64 0)
        exact ⟨by rw [HV.out]; rfl, (HMr.out.mono (by omega)).keeps hk2 (fun j hj e => by have := HM.out.mine_lt hj; omega), HKr.out.trans hk2 (fun i hi e => absurd e (by omega))⟩
end Go.Proofs.YtdkhhofgfbnmkaaGreat
/- Store. Own work. -/
namespace Go.Proofs.YtdkhhofgfbnmkaaGreat
open Go.RowKit Go.Maps Go.Proofs.YtdkhhofgfbnmkaaGreat.Sp
def StorePost (w : World) (m B : Nat) (V : Value × Value × Value) (T : Nat → Option Nat) (M : Nat → Nat) (rs ds : List Sp) (L S X a n v : Nat) (e : Ending) (w' : World) : Prop :=
  ∃ x b, OffR (rs ++ ds) a n x b ∧ e = .returned (FaultV (if b then 30 else 0) x) ∧ Keeps (fun j => j = m ∨ Foot B T j) w w' ∧ (b = true → Mac w' m B V T M rs ds L S (X + 1)) ∧ (b = false → ∃ T', Mac w' m B V T' (putAt M a ((Pl.le 8 v).take n)) rs ds L (S + 1) X ∧ Grows w.heap.size T T')
set_option maxRecDepth 100000 in
set_option maxHeartbeats 4000000 in
theorem store_any {w : World} {m B : Nat} {V : Value × Value × Value} {T : Nat → Option Nat} {M : Nat → Nat} {rs ds : List Sp} {L S X a n v : Nat} (h : Mac w m B V T M rs ds L S X) (ha : a ≤ 18446744073709551615) (hn : Wide n) (hv : v ≤ 18446744073709551615) (hX : X ≤ 4611686018427387904) (hS : S ≤ 4611686018427387904) :
    Calls Tryz.prog 17 #[.pointer (some ⟨m, 0, none⟩), .int .u64 (a : Int), .int .i64 (n : Int), .int .u64 (v : Int)] w (StorePost w m B V T M rs ds L S X a n v) := by
  have HA : Hid (∀ W, Below w.heap.size w W → Calls Tryz.prog 40 #[.pointer (some ⟨m, 0, none⟩), .int .u64 (a : Int), .int .i64 (n : Int)] W (AskPost W m B V T M rs ds L S X a n)) := fun W hW => askWidth_any (h.below hW) ha hn hX
  have HM : Hid (Mac w m B V T M rs ds L S X) := h
  have hml := h.lt
  clear h
  go_enter Tryz.func17, Tryz.ntmps17
  go_wp2_with fail
  refine (HA.out _ ((Below.refl _ _).alloc (Nat.le_refl _) _)).mono ?_
  rintro e w1 ⟨x, b, ho, rfl, hm1, hk1⟩
  have HOff : Hid (OffR (rs ++ ds) a n x b) := ho
  have HX1 : Hid (BoxF w1 w.heap.size 0 0) := (BoxF.new w 0 0).keeps hk1 (by omega)
  have HM1 : Hid (Mac w1 m B V T M rs ds L S (up b X)) := hm1
  have HK1 : Hid (Keeps (fun j => j = m) w w1) := (Keeps.alloc (S := fun j => j = m) w _).trans hk1 (fun _ _ e => e)
  have hne : w.heap.size ≠ w1.heap.size := Nat.ne_of_lt HX1.out.lt
  have hlt1 := HX1.out.lt
  clear ho hm1 hk1 HA
  unfold FaultV
  cases b with
  | true =>
    simp only [if_true]
    obtain ⟨x0, x1, f0, f1⟩ := HX1.out.cells
    have y0 := fun X => (HX1.out.below ((Below.refl _ _).alloc (Nat.le_refl _) X)).cells.1
    have y1 := fun X => (HX1.out.below ((Below.refl _ _).alloc (Nat.le_refl _) X)).cells.2.1
    have y2 := fun X => (HX1.out.below ((Below.refl _ _).alloc (Nat.le_refl _) X)).cells.2.2.1
    have y3 := fun X => (HX1.out.below ((Below.refl _ _).alloc (Nat.le_refl _) X)).cells.2.2.2
    go_wp2_with fail
    have hbx := (HX1.out.set 30 x).below ((Below.refl _ _).alloc (Nat.le_refl _) (Obj.cells #[.int .i64 30, .int .u64 x] 57))
    obtain ⟨d0, d1, _⟩ := hbx.cells
    refine bodyPost_ret (v := .agg #[.int .i64 30, .int .u64 x]) (by simp [results, Tryz.results17, go_sem, d0, d1]) rfl ?_
    have hk2 : Keeps (fun j => j = w.heap.size) w1 (((w1.setCell ⟨w.heap.size, 0, none⟩ (.int .i64 30)).setCell ⟨w.heap.size, 1, none⟩ (.int .u64 x)).alloc (Obj.cells #[.int .i64 30, .int .u64 x] 57)) := (Keeps.two w1 w.heap.size (.int .i64 30) (.int .u64 x)).trans (Keeps.alloc (S := fun _ => False) _ _) (fun _ _ h => h.elim)
    exact ⟨x, true, HOff.out, rfl, (HK1.out.mono (fun _ _ e => .inl e)).trans hk2 (fun i hi e => absurd e (by omega)), fun _ => HM1.out.keeps hk2 (fun j hj e => by have := HM.out.mine_lt hj; omega), fun h => by cases h⟩
  | false =>
    simp only [Bool.false_eq_true, if_false]
    have hn0 : 0 < n ∧ n ≤ 8 := by rcases hn with h | h | h | h <;> omega
    have HLow : Hid (a + n ≤ 4294967296) := off_low HOff.out HM.out hn0.1
    have HXz : Hid (x = 0) := (HOff.out.2 rfl).1
    go_wp2_with fail
    obtain ⟨W2, hW2⟩ : ∃ W2, w1.alloc (Obj.cells #[.int .i64 0, .int .u64 x] 57) = W2 := ⟨_, rfl⟩
    have HB2 : Hid (Below w1.heap.size w1 W2) := hW2 ▸ (Below.refl _ _).alloc (Nat.le_refl _) _
    have HX2 : Hid (BoxF W2 w.heap.size 0 0) := HX1.out.below HB2.out
    have HM2 : Hid (Mac W2 m B V T M rs ds L S X) := HM1.out.below HB2.out
    rw [hW2]
    clear hW2
    have c6 := HM2.out.cells.2.2.2.1
    have HPut : Hid (Calls Tryz.prog 42 #[.slice none 0 0, .int .u64 (v : Int)] W2.drew fun e w3 => ∃ g cap, e = .returned (.slice (some ⟨g, 0, none⟩) 8 cap) ∧ n ≤ cap ∧ cap ≤ 9223372036854775807 ∧ w3.cell? ⟨m, 6, none⟩ = some (.map (some B)) ∧ Hid (Below W2.heap.size W2 w3) ∧ Hid (Sl w3 (.slice (some ⟨g, 0, none⟩) 8 cap) (Pl.le 8 v) ∧ W2.heap.size ≤ g ∧ g < w3.heap.size)) := by
      refine (put_nil W2.drew hv).mono ?_
      rintro e w3 ⟨v3, rfl, ho3, hb3⟩
      have hsl := ho3.sl (Pl.le_small 8 v)
      obtain ⟨g, cap, e, hg1, hg2, hg3, hg4⟩ := ho3.form (by rw [Pl.le_length]; omega)
      rw [Pl.le_length] at e hg3
      subst e
      unfold maxLen at hg4
      refine ⟨g, cap, rfl, by omega, by omega, ?_, ⟨hb3.os, hb3.tape, hb3.output, hb3.size, hb3.block⟩, hsl, hg1, hg2⟩
      exact (hb3.cell (World.block_lt_of_cell? W2 _ c6)).trans c6
    have HLay : Hid (∀ w3 g cap, Below W2.heap.size W2 w3 → Sl w3 (.slice (some ⟨g, 0, none⟩) 8 cap) (Pl.le 8 v) ∧ W2.heap.size ≤ g ∧ g < w3.heap.size → Calls Tryz.prog 41 #[.map (some B), .int .u64 (a : Int), .slice (some ⟨g, 0, none⟩) n cap] w3 fun e w4 => e = .returned (.tuple #[]) ∧ w4.cell? ⟨m, 6, none⟩ = some (.map (some B)) ∧ Hid (∃ T', Held w4 B T' (putAt M a ((Pl.le 8 v).take n)) ∧ Keeps (Foot B T) w3 w4 ∧ Grows w3.heap.size T T')) := fun w3 g cap hb3 ⟨h1, h2, h3⟩ => by
      have hl8 : ((Pl.le 8 v).take n).length = n := by rw [List.length_take, Pl.le_length]; omega
      have h1' : Sl w3 (.slice (some ⟨g, 0, none⟩) (Pl.le 8 v).length cap) (Pl.le 8 v) := by rw [Pl.le_length]; exact h1
      have hs := h1'.front n (by rw [Pl.le_length]; omega)
      have := lay_some (zs := (Pl.le 8 v).take n) (a := a) (HM2.out.below hb3).held (by rw [hl8]; exact HLow.out) (by rw [hl8]; exact hs) (fun hf => by have := HM2.out.held.foot_lt hf; omega) h3
      rw [hl8] at this
      refine this.mono ?_
      rintro e w4 ⟨rfl, T', h4, h5, h6⟩
      refine ⟨rfl, ?_, T', h4, h5, h6⟩
      have hM3 := HM2.out.below hb3
      have c63 := hM3.cells.2.2.2.1
      refine (World.cell?_of_block (w := w3) (a := ⟨m, 6, none⟩) (h5.block m hM3.lt ?_)).trans c63
      obtain ⟨_, _, _, _, _, _, _, _, _, _, h9, _⟩ := hM3
      exact h9
    go_region_held3 (fun w' => w'.cell? ⟨m, 6, none⟩ = some (.map (some B))) (go_keep) (first | (go_at_call 42; refine HPut.out.mono ?_; rintro e w3 ⟨g, cap, rfl, hc1, hc2, c63, HB3, HS3⟩) | (go_at_call 41; refine (HLay.out _ _ _ HB3.out HS3.out).mono ?_; rintro e w4 ⟨rfl, c64, HL4⟩))
    obtain ⟨T', hH4, hK4, hG4⟩ := HL4.out
    have HM4 : Hid (Mac w4 m B V T' (putAt M a ((Pl.le 8 v).take n)) rs ds L S X) := (HM2.out.below HB3.out).laid hH4 hK4 hG4
    have hXf : ¬ Foot B T w.heap.size := fun hf => by have := HM.out.held.foot_lt hf; omega
    have HX4 : Hid (BoxF w4 w.heap.size 0 0) := (HX2.out.below HB3.out).keeps hK4 hXf
    have HK4 : Hid (Keeps (fun j => j = m ∨ Foot B T j) w w4) := ((HK1.out.mono (fun _ _ e => .inl e)).trans (Keeps.of_below (S := fun _ => False) (HB2.out.trans (HB3.out.mono HB2.out.size))) (fun _ _ h => h.elim)).trans hK4 (fun _ _ h => .inr h)
    have HG4 : Hid (Grows w.heap.size T T') := fun k g' e => (hG4 k g' e).imp id (fun h => by have := HB2.out.size; have := HB3.out.size; omega)
    have HNb : Hid (¬ Foot B T' w.heap.size) := fun hf => hXf (hG4.foot hf (by have := HB2.out.size; have := HB3.out.size; omega))
    have c1 := HM4.out.cells.2.1
    have g1 := HM4.out.cells.2.2.2.2 1
    obtain ⟨x0, x1, f0, f1⟩ := HX4.out.cells
    have HX5 : Hid (BoxF (w4.setCell ⟨m, 1, none⟩ (.int .i64 ((S : Int) + 1))) w.heap.size 0 0) := HX4.out.keeps (Keeps.setCell _ _ _ _) (by omega)
    obtain ⟨z0, z1, k0, k1⟩ := HX5.out.cells
    clear hH4 hK4 hG4 c6 c63 c64 HPut HLay HL4
    go_wp2_with fail
    obtain ⟨d0, d1, _⟩ := (HX5.out.set 0 0).cells
    refine bodyPost_ret (v := .agg #[.int .i64 0, .int .u64 0]) (by simp [results, Tryz.results17, go_sem, d0, d1]) rfl ?_
    have hk5 := Keeps.setCell w4 m 1 (.int .i64 ((S : Int) + 1))
    have hk6 := Keeps.two (w4.setCell ⟨m, 1, none⟩ (.int .i64 ((S : Int) + 1))) w.heap.size (.int .i64 0) (.int .u64 0)
    have hm5 : Mac (w4.setCell ⟨m, 1, none⟩ (.int .i64 ((S : Int) + 1))) m B V T' (putAt M a ((Pl.le 8 v).take n)) rs ds L (S + 1) X := HM4.out.recount hk5 (fun h0 => by
      simp only [World.setCell, Array.getElem?_modify]
      rw [if_pos trivial, h0]
      simp)
    refine ⟨x, false, HOff.out, by rw [HXz.out]; rfl, (HK4.out.trans hk5 (fun _ _ e => .inl e)).trans hk6 (fun i hi e => absurd e (by omega)), fun h => (by cases h), fun _ => ⟨T', hm5.keeps hk6 (fun j hj e => ?_), HG4.out⟩⟩
    subst e
    rcases hj with h | h | ⟨u, hu, e⟩
    · omega
    · exact HNb.out h
    · have := HM.out.mine_lt (.inr (.inr ⟨u, hu, e⟩)); omega
end Go.Proofs.YtdkhhofgfbnmkaaGreat
/- Load, Fetch, Store over a machine. Own work. -/
namespace Go.Proofs.YtdkhhofgfbnmkaaGreat
open Go.RowKit Go.Maps Go.Proofs.YtdkhhofgfbnmkaaGreat.Sp Wk
set_option maxRecDepth 100000 in
set_option maxHeartbeats 2000000 in
theorem wload_any {w : World} {m B : Nat} {V : Value × Value × Value} {T : Nat → Option Nat} {M : Nat → Nat} {rs ds : List Sp} {n t v k : Nat} (h : Mx w m B V T M rs ds n) (ht : t ≤ 18446744073709551615) (hn : n ≤ 4611686018427370000) (hk : Wide k) :
    Calls Tryz.prog 14 #[MemV m, .int .u64 (t : Int), .int .u64 (v : Int), .int .i64 (k : Int)] w fun e w' => e = .returned (.tuple #[.int .u64 ((takeV (rs ++ ds) M t v 1 k).1 : Int), FaultV (takeV (rs ++ ds) M t v 1 k).2.1 ((takeV (rs ++ ds) M t v 1 k).2.2 : Int)]) ∧ Hid (Mx w' m B V T M rs ds (n + 32)) ∧ Hid (Keeps (fun j => j = m) w w') := by
  have HM : Hid (Mx w m B V T M rs ds n) := h
  have hml := h.lt
  have HT := Lib.hid (take_any (acc := 1) (v := v) (h.below ((Below.refl w.heap.size _).alloc (Nat.le_refl _) (Obj.cells #[.int .i64 0, .int .u64 0] 57))) ht hn hk)
  generalize takeV (rs ++ ds) M t v 1 k = r at *
  obtain ⟨z, why, x⟩ := r
  simp only at HT ⊢
  unfold MemV at HT ⊢
  clear h
  go_enter Tryz.func14, Tryz.ntmps14
  go_wp2_with fail
  refine HT.out.mono ?_
  rintro e w1 ⟨rfl, HM1, HK1⟩
  have HX1 : Hid (BoxF w1 w.heap.size 0 0) := (BoxF.new w 0 0).keeps HK1.out (by omega)
  obtain ⟨x0, x1, f0, f1⟩ := HX1.out.cells
  unfold FaultV
  clear HT
  go_wp2_with fail
  obtain ⟨d0, d1, _⟩ := (HX1.out.set why x).cells
  refine bodyPost_ret (v := .tuple #[.int .u64 (z : Int), .agg #[.int .i64 why, .int .u64 (x : Int)]]) (by simp [results, Tryz.results14, go_sem, d0, d1]) rfl ?_
  have hk2 := Keeps.two w1 w.heap.size (.int .i64 why) (.int .u64 (x : Int))
  have hk1 : Keeps (fun j => j = m) w w1 := (Keeps.alloc (S := fun j => j = m) w _).trans HK1.out (fun _ _ e => e)
  exact ⟨rfl, HM1.out.keeps hk2 (fun j hj e => by have := HM.out.mine_lt hj; omega), hk1.trans hk2 (fun i hi e => absurd e (by omega))⟩
set_option maxRecDepth 100000 in
set_option maxHeartbeats 2000000 in
theorem wfetch_any {w : World} {m B : Nat} {V : Value × Value × Value} {T : Nat → Option Nat} {M : Nat → Nat} {rs ds : List Sp} {n t v k : Nat} (h : Mx w m B V T M rs ds n) (ht : t ≤ 18446744073709551615) (hn : n ≤ 4611686018427370000) (hk : Wide k) :
    Calls Tryz.prog 15 #[MemV m, .int .u64 (t : Int), .int .u64 (v : Int), .int .i64 (k : Int)] w fun e w' => e = .returned (.tuple #[.int .u64 ((takeV (rs ++ ds) M t v 3 k).1 : Int), FaultV (takeV (rs ++ ds) M t v 3 k).2.1 ((takeV (rs ++ ds) M t v 3 k).2.2 : Int)]) ∧ Hid (Mx w' m B V T M rs ds (n + 32)) ∧ Hid (Keeps (fun j => j = m) w w') := by
  have HM : Hid (Mx w m B V T M rs ds n) := h
  have hml := h.lt
  have HT := Lib.hid (take_any (acc := 3) (v := v) (h.below ((Below.refl w.heap.size _).alloc (Nat.le_refl _) (Obj.cells #[.int .i64 0, .int .u64 0] 57))) ht hn hk)
  generalize takeV (rs ++ ds) M t v 3 k = r at *
  obtain ⟨z, why, x⟩ := r
  simp only at HT ⊢
  unfold MemV at HT ⊢
  clear h
  go_enter Tryz.func15, Tryz.ntmps15
  go_wp2_with fail
  refine HT.out.mono ?_
  rintro e w1 ⟨rfl, HM1, HK1⟩
  have HX1 : Hid (BoxF w1 w.heap.size 0 0) := (BoxF.new w 0 0).keeps HK1.out (by omega)
  obtain ⟨x0, x1, f0, f1⟩ := HX1.out.cells
  unfold FaultV
  clear HT
  go_wp2_with fail
  obtain ⟨d0, d1, _⟩ := (HX1.out.set why x).cells
  refine bodyPost_ret (v := .tuple #[.int .u64 (z : Int), .agg #[.int .i64 why, .int .u64 (x : Int)]]) (by simp [results, Tryz.results15, go_sem, d0, d1]) rfl ?_
  have hk2 := Keeps.two w1 w.heap.size (.int .i64 why) (.int .u64 (x : Int))
  have hk1 : Keeps (fun j => j = m) w w1 := (Keeps.alloc (S := fun j => j = m) w _).trans HK1.out (fun _ _ e => e)
  exact ⟨rfl, HM1.out.keeps hk2 (fun j hj e => by have := HM.out.mine_lt hj; omega), hk1.trans hk2 (fun i hi e => absurd e (by omega))⟩
/-- the memory with the first i bytes of a number laid where an access leads -/
noncomputable def stM (LL : List Sp) (M : Nat → Nat) (t v val : Nat) : Nat → Nat → Nat
  | 0 => M
  | i + 1 => putAt (stM LL M t v val i) (ad LL M t v 2 i).1 [(Pl.le 8 val).getD i 0]
/-- what Store answers and leaves -/
def WStP (w : World) (m B : Nat) (V : Value × Value × Value) (T : Nat → Option Nat) (M : Nat → Nat) (rs ds : List Sp) (n t v k val : Nat) (e : Ending) (w' : World) : Prop :=
  (∃ why x, reachF (rs ++ ds) M t v 2 k = some (why, x) ∧ e = .returned (FaultV why (x : Int)) ∧ Mx w' m B V T M rs ds (n + 32) ∧ Keeps (fun j => j = m) w w') ∨
  (reachF (rs ++ ds) M t v 2 k = none ∧ (∀ j, j < k → (ad (rs ++ ds) M t v 2 j).2 = 0 ∧ On (rs ++ ds) ((ad (rs ++ ds) M t v 2 j).1 : Int)) ∧ e = .returned (FaultV 0 0) ∧ ∃ T', Mx w' m B V T' (stM (rs ++ ds) M t v val k) rs ds (n + 32) ∧ Grows w.heap.size T T' ∧ Keeps (fun j => j = m ∨ Foot B T j) w w')
/-- where Store's loop stands -/
def StA (w w2 : World) (m B : Nat) (V : Value × Value × Value) (T : Nat → Option Nat) (M : Nat → Nat) (rs ds : List Sp) (n t v k val g gp cp base q : Nat) (wr : World) : Prop :=
  RowA wr g (upA (rs ++ ds) M t v 2 k k) ∧ Own wr base (.slice (some ⟨gp, 0, none⟩) 8 cp) (Pl.le 8 val) ∧ BoxF wr w.heap.size 0 0 ∧ Keeps (fun j => j = m ∨ Foot B T j) w wr ∧ w2.heap.size ≤ wr.heap.size ∧ ∃ T', Mx wr m B V T' (stM (rs ++ ds) M t v val q) rs ds (n + 16 + q) ∧ Grows w2.heap.size T T'
theorem StA.below {w w2 : World} {m B : Nat} {V : Value × Value × Value} {T : Nat → Option Nat} {M : Nat → Nat} {rs ds : List Sp} {n t v k val g gp cp base q : Nat} {wr wr' : World} (h : StA w w2 m B V T M rs ds n t v k val g gp cp base q wr) (hb : Below wr.heap.size wr wr') : StA w w2 m B V T M rs ds n t v k val g gp cp base q wr' := by
  obtain ⟨h1, h2, h3, h4, h5, T', h6, h7⟩ := h
  exact ⟨h1.below hb, h2.below hb, h3.below hb, h4.trans (Keeps.of_below (S := fun _ => False) hb) (fun _ _ h => h.elim), Nat.le_trans h5 hb.size, T', h6.below hb, h7⟩
theorem sta_store {w w2 : World} {m B : Nat} {V : Value × Value × Value} {T : Nat → Option Nat} {M : Nat → Nat} {rs ds : List Sp} {n t v k val g gp cp base q : Nat} {wr : World} (h : StA w w2 m B V T M rs ds n t v k val g gp cp base q wr) (hm : Mx w m B V T M rs ds n) (hg : w.heap.size < g ∧ g < w2.heap.size) (hgp : w.heap.size < gp ∧ gp < w2.heap.size) (hq : q < 8) (hn : n ≤ 4611686018427370000) (hon : On (rs ++ ds) ((ad (rs ++ ds) M t v 2 q).1 : Int)) (W : World) (hW : Below wr.heap.size wr W) :
    Calls Tryz.prog 17 #[.pointer (some ⟨m, 0, none⟩), .int .u64 ((ad (rs ++ ds) M t v 2 q).1 : Int), .int .i64 1, .int .u64 (((Pl.le 8 val).getD q 0 : Nat) : Int)] W fun e w' => e = .returned (.agg #[.int .i64 0, .int .u64 0]) ∧ w'.cell? ⟨gp, q, none⟩ = some (.int .u8 (((Pl.le 8 val).getD q 0 : Nat) : Int)) ∧ Hid (StA w w2 m B V T M rs ds n t v k val g gp cp base (q + 1) w') ∧ Hid (∀ b x y, wr.heap.size ≤ b → BoxF W b x y → BoxF w' b x y) ∧ Hid (∀ b u y, wr.heap.size ≤ b → b < W.heap.size → StA w w2 m B V T M rs ds n t v k val g gp cp base (q + 1) ((w'.setCell ⟨b, 0, none⟩ u).setCell ⟨b, 1, none⟩ y)) := by
  have hml := hm.lt
  have hft : ∀ j, Foot B T j → j < w.heap.size := fun j hj => hm.mine_lt (.inr (.inl hj))
  have h' := h.below hW
  obtain ⟨g1, g2, g3, g4, g5, T', hmxr, g7⟩ := h
  have hlow : ∀ j, Foot B T' j → j < wr.heap.size := fun j hj => hmxr.mine_lt (.inr (.inl hj))
  obtain ⟨h1, h2, h3, h4, h5, _⟩ := h'
  obtain ⟨L, S, X, l1, l2, l3, hmac⟩ := hmxr.below hW
  have h7 := g7
  have hmr := hmxr.lt
  have hz : (Pl.le 8 val).getD q 0 < 256 := by
    rw [List.getD_eq_getElem?_getD, List.getElem?_eq_getElem (by rw [Pl.le_length]; exact hq)]
    exact Pl.le_small 8 val _ (List.getElem_mem _)
  have ha := adrF_le (rs ++ ds) M t (vv v q) 2
  refine (store_any (n := 1) hmac ha (Or.inl rfl) (show (Pl.le 8 val).getD q 0 ≤ 18446744073709551615 by omega) (by omega) (by omega)).mono ?_
  rintro e w' ⟨x, b, ho, rfl, hk, _, hok⟩
  have hb : b = false := by
    cases b with
    | false => rfl
    | true =>
      obtain ⟨i, hi, _, _, hnn, _⟩ := ho.1 rfl
      obtain rfl : i = 0 := by omega
      have hon' : On (rs ++ ds) ((adrF (rs ++ ds) M t (vv v q) 2).1 : Int) := hon
      exact absurd (by simpa using hon') hnn
  subst hb
  obtain ⟨hx, _⟩ := ho.2 rfl
  subst hx
  obtain ⟨T'', hm2, hg2⟩ := hok rfl
  have hle1 : (Pl.le 8 ((Pl.le 8 val).getD q 0)).take 1 = [(Pl.le 8 val).getD q 0] := by
    generalize (Pl.le 8 val).getD q 0 = z at hz
    show [z % 256] = [z]
    rw [Nat.mod_eq_of_lt hz]
  rw [hle1] at hm2
  have hno : ∀ j, w.heap.size ≤ j → j < w2.heap.size → ¬ (j = m ∨ Foot B T' j) := fun j hj1 hj2 hj => by
    rcases hj with rfl | hj
    · omega
    · have := hft j (h7.foot hj hj2); omega
  have hown' := h2.keeps hk (fun k e => by cases e; exact hno gp (by omega) hgp.2)
  have hrow' := h1.keeps hk (hno g (by omega) hg.2)
  have hbx' := h3.keeps hk (hno _ (Nat.le_refl _) (by omega))
  have hks' := h4.trans hk (fun i hi e => e.imp id (fun hj => h7.foot hj (by omega)))
  have hmx' : Mx w' m B V T'' (stM (rs ++ ds) M t v val (q + 1)) rs ds (n + 16 + (q + 1)) := ⟨L, S + 1, X, by omega, by omega, by omega, hm2⟩
  refine ⟨rfl, hown'.cell q (by rw [Pl.le_length]; exact hq), ⟨hrow', hown', hbx', hks', Nat.le_trans h5 hk.size, T'', hmx', h7.trans hg2 h5⟩, fun b x y hb hbox => hbox.keeps hk (fun e => e.elim (fun e => by omega) (fun hj => by have := hlow b hj; omega)), fun b u y hb1 hb2 => ?_⟩
  have hk5 := Keeps.two w' b u y
  refine ⟨hrow'.keeps hk5 (show ¬ g = b by omega), hown'.keeps hk5 (fun k e => by cases e; show ¬ gp = b; omega), hbx'.keeps hk5 (show ¬ w.heap.size = b by omega), hks'.trans hk5 (fun i hi e => absurd (show i = b from e) (by have := h4.size; have := hW.size; omega)), Nat.le_trans (Nat.le_trans h5 hk.size) hk5.size, T'', hmx'.keeps hk5 (fun j hj e => ?_), h7.trans hg2 h5⟩
  have e : j = b := e
  rcases hj with rfl | hj | ⟨u', hu, hj⟩
  · omega
  · have := hlow j (hg2.foot hj (by omega)); omega
  · have := hmxr.mine_lt (.inr (.inr ⟨u', hu, hj⟩)); omega
set_option maxRecDepth 100000 in
set_option maxHeartbeats 8000000 in
theorem wstore_any {w : World} {m B : Nat} {V : Value × Value × Value} {T : Nat → Option Nat} {M : Nat → Nat} {rs ds : List Sp} {n t v k val : Nat} (h : Mx w m B V T M rs ds n) (ht : t ≤ 18446744073709551615) (hval : val ≤ 18446744073709551615) (hn : n ≤ 4611686018427370000) (hk : Wide k) :
    Calls Tryz.prog 24 #[MemV m, .int .u64 (t : Int), .int .u64 (v : Int), .int .i64 (k : Int), .int .u64 (val : Int)] w (WStP w m B V T M rs ds n t v k val) := by
  have HM : Hid (Mx w m B V T M rs ds n) := h
  have hml := h.lt
  have k8 : k ≤ 8 := by rcases hk with h | h | h | h <;> omega
  have HRe : Hid (Calls Tryz.prog 49 #[MemV m, .int .u64 (t : Int), .int .u64 (v : Int), .int .i64 (k : Int), .int .i64 2] (w.alloc (Obj.cells #[.int .i64 0, .int .u64 0] 57)) fun e w' => ReachP (w.alloc (Obj.cells #[.int .i64 0, .int .u64 0] 57)) (rs ++ ds) M t v 2 k e w' ∧ Hid (Mx w' m B V T M rs ds (n + 16)) ∧ Hid (Keeps (fun j => j = m) (w.alloc (Obj.cells #[.int .i64 0, .int .u64 0] 57)) w')) := reached_any (h.below ((Below.refl _ _).alloc (Nat.le_refl _) _)) ht (by omega) hk
  have hme : ∀ (w : World) (p : Option Addr), (method 319 28 (.pointer p) "Store").run Tryz.prog w = .ok (17, .pointer p) w := fun _ _ => by kernel_rfl
  have hna : ∀ (W : World) (a : Addr), (nilAhead 319 28 (.pointer (some a)) "Store").run Tryz.prog W = .ok (some false) W := fun _ _ => by kernel_rfl
  have HX0 : Hid (BoxF (w.alloc (Obj.cells #[.int .i64 0, .int .u64 0] 57)) w.heap.size 0 0) := BoxF.new w 0 0
  unfold MemV at HRe ⊢
  clear hk h
  go_enter Tryz.func24, Tryz.ntmps24
  go_wp2_with fail
  refine HRe.out.mono ?_
  rintro e w1 ⟨hP, HM1, HK1⟩
  have HX1 : Hid (BoxF w1 w.heap.size 0 0) := HX0.out.keeps HK1.out (by omega)
  have HKw1 : Hid (Keeps (fun j => j = m) w w1) := (Keeps.alloc (S := fun j => j = m) w _).trans HK1.out (fun _ _ e => e)
  have hlt1 := HX1.out.lt
  clear HRe HX0 HK1
  rcases hP with ⟨why, x, hre, rfl⟩ | ⟨hre, hall, g, rfl, hg, hrow⟩
  · have HRe : Hid (reachF (rs ++ ds) M t v 2 k = some (why, x)) := hre
    have h0 := reach_why hre
    have h0e : (why == 0) = false := by simpa using h0
    obtain ⟨W3, hW3⟩ : ∃ W3, w1.alloc (Obj.cells #[.int .i64 why, .int .u64 (x : Int)] 57) = W3 := ⟨_, rfl⟩
    have HF3 : Hid (BoxF W3 w1.heap.size why x) := hW3 ▸ BoxF.new w1 why x
    have HX3 : Hid (BoxF W3 w.heap.size 0 0) := hW3 ▸ HX1.out.below ((Below.refl _ _).alloc (Nat.le_refl _) _)
    have HB3 : Hid (Below w1.heap.size w1 W3) := hW3 ▸ (Below.refl _ _).alloc (Nat.le_refl _) _
    have hne : w.heap.size ≠ w1.heap.size := by omega
    obtain ⟨x0, x1, f0, f1⟩ := HX3.out.cells
    obtain ⟨y0, y1, _, _⟩ := HF3.out.cells
    unfold FaultV
    clear hre
    go_wp2_with fail
    clear hW3
    obtain ⟨d0, d1, _⟩ := (HX3.out.set why x).cells
    refine bodyPost_ret (v := .agg #[.int .i64 why, .int .u64 (x : Int)]) (by simp [results, Tryz.results24, go_sem, d0, d1]) rfl ?_
    have hk2 := Keeps.two W3 w.heap.size (.int .i64 why) (.int .u64 (x : Int))
    exact .inl ⟨why, x, HRe.out, rfl, ((HM1.out.mono (by omega)).below HB3.out).keeps hk2 (fun j hj e => by have := HM.out.mine_lt hj; omega), (HKw1.out.trans (Keeps.of_below (S := fun _ => False) HB3.out) (fun _ _ h => h.elim)).trans hk2 (fun i hi e => absurd e (by omega))⟩
  · have HRe : Hid (reachF (rs ++ ds) M t v 2 k = none) := hre
    have HAll : Hid (∀ j, j < k → (ad (rs ++ ds) M t v 2 j).2 = 0 ∧ On (rs ++ ds) ((ad (rs ++ ds) M t v 2 j).1 : Int)) := hall
    have HRw : Hid (RowA w1 g (upA (rs ++ ds) M t v 2 k k)) := hrow
    have hgl : w.heap.size < g ∧ g < w1.heap.size := ⟨by simp at hg; omega, hrow.lt⟩
    obtain ⟨hg1, hg2⟩ := hgl
    have HPut := Lib.hid (put_nil (n := val) (w1.alloc (Obj.cells #[.int .i64 0, .int .u64 0] 57)) hval)
    clear hre hall hrow hg
    unfold FaultV
    go_wp2_with fail
    refine HPut.out.mono ?_
    rintro e w2 ⟨vp, rfl, hown, hb2⟩
    obtain ⟨gp, cp, hvp, hgp, hgp2, hcp, hcm⟩ := hown.form (by rw [Pl.le_length]; omega)
    rw [Pl.le_length] at hvp hcp
    subst hvp
    have HOw : Hid (Own w2 (w1.alloc (Obj.cells #[.int .i64 0, .int .u64 0] 57)).heap.size (.slice (some ⟨gp, 0, none⟩) 8 cp) (Pl.le 8 val)) := hown
    have HB2 : Hid (Below w1.heap.size w1 w2) := ((Below.refl _ _).alloc (Nat.le_refl _) _).trans (hb2.mono (by simp))
    have hgp1 : w1.heap.size < gp := by simp at hgp; omega
    have HX2 : Hid (BoxF w2 w.heap.size 0 0) := HX1.out.below HB2.out
    have HRw2 : Hid (RowA w2 g (upA (rs ++ ds) M t v 2 k k)) := HRw.out.below HB2.out
    have HM2 : Hid (Mx w2 m B V T M rs ds (n + 16)) := HM1.out.below HB2.out
    have HKw2 : Hid (Keeps (fun j => j = m) w w2) := HKw1.out.trans (Keeps.of_below (S := fun _ => False) HB2.out) (fun _ _ h => h.elim)
    clear hown hb2 hgp HPut HX1 HRw HM1 HKw1
    have HSt0 : Hid (StA w w2 m B V T M rs ds n t v k val g gp cp (w1.alloc (Obj.cells #[.int .i64 0, .int .u64 0] 57)).heap.size 0 w2) := ⟨HRw2.out, HOw.out, HX2.out, HKw2.out.mono (fun _ _ e => .inl e), Nat.le_refl _, T, HM2.out, Grows.refl _ _⟩
    have hgg : g < w2.heap.size := HRw2.out.lt
    generalize hbs : (w1.alloc (Obj.cells #[.int .i64 0, .int .u64 0] 57)).heap.size = bs at *
    clear hbs HRw2 HOw HX2 HKw2 HM2
    go_wp2_with fail
    go_loopw [33] (fun iv wr => ∃ q : Nat, q ≤ k ∧ iv = .int .i64 (q : Int) ∧ Hid (StA w w2 m B V T M rs ds n t v k val g gp cp bs q wr)) (fun iv _ => k - (intOf iv).toNat)
    case atStart => exact ⟨0, Nat.zero_le _, rfl, HSt0⟩
    case round =>
      clear HSt0
      obtain ⟨q, hq, rfl, HS⟩ := hrel
      by_cases hlt : q < k
      · have y0 := HS.out.1.cell q (by rw [upA_len]; exact hlt)
        rw [upA_get _ _ _ _ _ _ _ hlt] at y0
        have z0 := HS.out.2.1.cell q (by rw [Pl.le_length]; omega)
        have HCl := Lib.hid (sta_store HS.out HM.out ⟨hg1, hgg⟩ ⟨by omega, hgp2⟩ (by omega) hn (HAll.out q hlt).2)
        have hz : (Pl.le 8 val).getD q 0 < 256 := by
          rw [List.getD_eq_getElem?_getD, List.getElem?_eq_getElem (by rw [Pl.le_length]; omega)]
          exact Pl.le_small 8 val _ (List.getElem_mem _)
        generalize (ad (rs ++ ds) M t v 2 q).1 = r1 at *
        generalize (Pl.le 8 val).getD q 0 = z at *
        have qi : (q : Int) < (k : Int) := by omega
        have q8 : (q : Int) < 8 := by omega
        have q8n : q < 8 := by omega
        have HBd : Hid (Below wr.heap.size wr wr.drew) := (Below.refl _ _).drew
        have hzw : IntKind.u64.wrap (z : Int) = (z : Int) := by rw [IntKind.wrap_u64]; omega
        go_wp2_with fail
        have hnew : gp ≠ wr.heap.size := by have := HS.out.2.2.2.2.1; omega
        go_region_held3 (fun w' => w'.cell? ⟨gp, q, none⟩ = some (.int .u8 ((z : Nat) : Int))) (first | exact (U64.set_other hnew).trans ((U64.set_other hnew).trans z3) | go_keep) (first | (go_at_call 17; first | (refine (HCl.out _ HBd.out).mono ?_; rintro e w3 ⟨rfl, z3, HS3, HZ3, HY3⟩) | (refine (HCl.out _ (HBd.out.alloc HBd.out.size _)).mono ?_; rintro e w3 ⟨rfl, z3, HS3, HZ3, HY3⟩; obtain ⟨k0, k1, k2, k3⟩ := (HZ3.out wr.heap.size 0 0 (Nat.le_refl _) (BoxF.new wr.drew 0 0)).cells)))
        · go_wp2_with fail
          go_roundw
          case rel => exact ⟨q + 1, by omega, by go_num, HS3.out.below ((Below.refl _ _).alloc (Nat.le_refl _) _)⟩
          case measure => simp [intOf]; omega
        all_goals
          go_wp2_with fail
          go_roundw
          case rel => exact ⟨q + 1, by omega, by go_num, HY3.out wr.heap.size _ _ (Nat.le_refl _) (by simp)⟩
          case measure => simp [intOf]; omega
      · obtain rfl : q = k := by omega
        obtain ⟨x0, x1, f0, f1⟩ := HS.out.2.2.1.cells
        have HXr : Hid (BoxF wr w.heap.size 0 0) := HS.out.2.2.1
        go_wp2_with fail
        obtain ⟨d0, d1, _⟩ := (HXr.out.set 0 0).cells
        refine bodyPost_ret (v := .agg #[.int .i64 0, .int .u64 0]) (by simp [results, Tryz.results24, go_sem, d0, d1]) rfl ?_
        have hk2 := Keeps.two wr w.heap.size (.int .i64 0) (.int .u64 0)
        obtain ⟨_, _, _, h4, h5, T', h6, h7⟩ := HS.out
        refine .inr ⟨HRe.out, HAll.out, rfl, T', (h6.mono (by omega)).keeps hk2 (fun j hj e => ?_), fun k g e => (h7 k g e).imp id (fun h => by omega), h4.trans hk2 (fun i hi e => absurd e (by omega))⟩
        have e : j = w.heap.size := e
        rcases hj with rfl | hj | ⟨u, hu, hj⟩
        · omega
        · have := HM.out.mine_lt (.inr (.inl (h7.foot hj (by omega)))); omega
        · have := HM.out.mine_lt (.inr (.inr ⟨u, hu, hj⟩)); omega
end Go.Proofs.YtdkhhofgfbnmkaaGreat
