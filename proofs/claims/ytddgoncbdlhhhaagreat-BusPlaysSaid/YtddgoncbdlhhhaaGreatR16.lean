import Derived.Test.YtddgoncbdlhhhaaGreatR15
/- askWidth; Peek, Load, Store. Own work. -/
namespace Go.Proofs.YtddgoncbdlhhhaaGreat
open Go.RowKit Go.Maps Go.Proofs.YtddgoncbdlhhhaaGreat.Sp
theorem Keeps.two (w : World) (b : Nat) (u v : Value) : Keeps (fun j => j = b) w ((w.setCell ⟨b, 0, none⟩ u).setCell ⟨b, 1, none⟩ v) :=
  (Keeps.setCell w b 0 u).trans (Keeps.setCell _ b 1 v) (fun _ _ e => e)
theorem slice8_h (w : World) (g n : Nat) (hn : n ≤ 8) : (Instr.sliceAt 115 (.pointer (some ⟨g, 0, none⟩)) none (some (.int .i64 (n : Int))) none).run Tryz.prog w = .ok (.slice (some ⟨g, 0, none⟩) n 8) w := by
  obtain ⟨i, hi, _, hz1, _⟩ := info_parts info_byte
  have hs : (sizeOf 5).run Tryz.prog w = .ok 1 w := by simp only [sizeOf, typeInfo, Sem.run_bind, run_program, Result.andThen_ok, hi, Sem.run_pure, hz1]
  have hu : Tryz.prog.underlying 115 = some (.array 8 5) := Tryz.underlying115
  have hb : ∀ code, (Instr.sliceBound (.int .i64 (n : Int)) 8 code).run Tryz.prog w = .ok n w := fun code => by
    have h1 : (0 : Int) ≤ (n : Int) ∧ (n : Int) ≤ ((8 : Nat) : Int) := by omega
    simp only [Instr.sliceBound, asIntOf, Sem.run_bind, Sem.run_pure, Result.andThen_ok, if_pos h1, Int.toNat_natCast]
  have e : (⟨g, 0, none⟩ : Addr).add (0 * 1) = ⟨g, 0, none⟩ := by rw [Addr.add_mid]
  simp only [Instr.sliceAt, Instr.sureAddr, run_underlying hu, Sem.run_bind, Result.andThen_ok, Sem.run_pure, Instr.sliceBounds, hb, hs]
  rw [if_neg (by omega), e]
  rfl
theorem slice8_all (w : World) (g : Nat) : (Instr.sliceAt 115 (.pointer (some ⟨g, 0, none⟩)) none none none).run Tryz.prog w = .ok (.slice (some ⟨g, 0, none⟩) 8 8) w := by
  obtain ⟨i, hi, _, hz1, _⟩ := info_parts info_byte
  have hs : (sizeOf 5).run Tryz.prog w = .ok 1 w := by simp only [sizeOf, typeInfo, Sem.run_bind, run_program, Result.andThen_ok, hi, Sem.run_pure, hz1]
  have hu : Tryz.prog.underlying 115 = some (.array 8 5) := Tryz.underlying115
  have e : (⟨g, 0, none⟩ : Addr).add (0 * 1) = ⟨g, 0, none⟩ := by rw [Addr.add_mid]
  simp only [Instr.sliceAt, Instr.sureAddr, run_underlying hu, Sem.run_bind, Result.andThen_ok, Sem.run_pure, Instr.sliceBounds, hs]
  rw [if_neg (by omega), e]
theorem heap_alloc_new' {w : World} {n : Nat} (h : w.heap.size = n) (o : Obj) : (w.alloc o).heap[n]? = some o := by
  subst h; exact heap_alloc_new w o
theorem keeps_drewn {Z : Nat → Prop} {w w' : World} (h : Keeps Z w.drew w') : Keeps Z w w' := ⟨h.os, h.tape, h.output, h.size, h.block⟩
theorem rdTo_small {M : Nat → Nat} (hM : ∀ p, M p < 256) (a C i : Nat) : ∀ z ∈ rdTo M a C i, z < 256 := by
  intro z hz
  rcases List.mem_append.1 hz with h | h
  · obtain ⟨j, _, rfl⟩ := List.mem_map.1 h
    exact hM _
  · rw [List.eq_of_mem_replicate h]; decide
theorem rowT_sl {w : World} {t : TypeId} {g : Nat} {L : List Nat} (h : RowT w t g L) {n : Nat} (hn : L.length = n) (hz : ∀ z ∈ L, z < 256) (hm : n ≤ maxLen := by decide) : Sl w (.slice (some ⟨g, 0, none⟩) n n) L := by
  subst hn
  refine ⟨_, L.length, rfl, Nat.le_refl _, hm, hz, by simp, fun i hi => ⟨g, 0, rfl, ?_⟩⟩
  rw [Nat.zero_add, cell_of_row w g i _ _ _ h, List.getElem?_toArray, bvs_get _ _ hi]
theorem off_low {w : World} {m B : Nat} {V : Value × Value × Value} {T : Nat → Option Nat} {M : Nat → Nat} {rs ds : List Sp} {L S X a n : Nat} {x : Int} (h : OffR (rs ++ ds) a n x false) (hM : Mac w m B V T M rs ds L S X) (hn : 0 < n) : a + n ≤ 4294967296 := by
  obtain ⟨G, _, _, _, _, _, _, h6, _⟩ := hM
  obtain ⟨r, hr, h1, h2⟩ := (h.2 rfl).2 (n - 1) (by omega)
  have := h6 r hr
  omega
def Wide (n : Nat) : Prop := n = 1 ∨ n = 2 ∨ n = 4 ∨ n = 8
set_option maxRecDepth 100000 in
set_option maxHeartbeats 4000000 in
theorem askWidth_any {w : World} {m B : Nat} {V : Value × Value × Value} {T : Nat → Option Nat} {M : Nat → Nat} {rs ds : List Sp} {L S X a n : Nat} (h : Mac w m B V T M rs ds L S X) (ha : a ≤ 18446744073709551615) (hn : Wide n) (hX : X ≤ 4611686018427387904) :
    Calls Tryz.prog 46 #[.pointer (some ⟨m, 0, none⟩), .int .u64 (a : Int), .int .i64 (n : Int)] w (AskPost w m B V T M rs ds L S X a n) := by
  have HA : Hid (∀ W, Below w.heap.size w W → Calls Tryz.prog 83 #[.pointer (some ⟨m, 0, none⟩), .int .u64 (a : Int), .int .i64 (n : Int)] W (AskPost W m B V T M rs ds L S X a n)) := fun W hW => ask_any (h.below hW) ha (by rcases hn with h | h | h | h <;> omega) hX
  have HM : Hid (Mac w m B V T M rs ds L S X) := h
  have hml := h.lt
  clear h
  rcases hn with rfl | rfl | rfl | rfl
  all_goals
    go_enter Tryz.func46, Tryz.ntmps46
    go_wp2_with fail
    refine (HA.out _ ((Below.refl _ _).alloc (Nat.le_refl _) _)).mono ?_
    rintro e w1 ⟨x, b, ho, rfl, hm1, hk1⟩
    have HOff : Hid (OffR (rs ++ ds) a _ x b) := ho
    have HX1 : Hid (BoxF w1 w.heap.size 0 0) := (BoxF.new w 0 0).keeps hk1 (by omega)
    have HM1 : Hid (Mac w1 m B V T M rs ds L S (up b X)) := hm1
    have HK1 : Hid (Keeps (fun j => j = m) w w1) := (Keeps.alloc (S := fun j => j = m) w _).trans hk1 (fun _ _ e => e)
    obtain ⟨x0, x1, f0, f1⟩ := HX1.out.cells
    clear ho hm1 hk1 HA
    unfold FaultV
    obtain ⟨why, hwhy⟩ : ∃ why, why = (if b = true then (30 : Int) else 0) := ⟨_, rfl⟩
    have HWhy : Hid (why = (if b = true then (30 : Int) else 0)) := hwhy
    rw [← hwhy]
    clear hwhy
    go_wp2_with fail
    obtain ⟨d0, d1, _⟩ := (HX1.out.set why x).cells
    refine bodyPost_ret (v := .agg #[.int .i64 why, .int .u64 x]) (by simp [results, Tryz.results46, go_sem, d0, d1]) rfl ?_
    have hk2 := Keeps.two w1 w.heap.size (.int .i64 why) (.int .u64 x)
    exact ⟨x, b, HOff.out, by rw [HWhy.out]; rfl, HM1.out.keeps hk2 (fun j hj e => by have := HM.out.mine_lt hj; omega), HK1.out.trans hk2 (fun i hi e => absurd e (by omega))⟩
set_option maxRecDepth 100000 in
set_option maxHeartbeats 4000000 in
theorem askWidth_not {w : World} {m : Nat} {a n : Int} (hn : n ≠ 1 ∧ n ≠ 2 ∧ n ≠ 4 ∧ n ≠ 8) :
    Calls Tryz.prog 46 #[.pointer (some ⟨m, 0, none⟩), .int .u64 a, .int .i64 n] w fun e w' => e = .returned (FaultV 31 a) ∧ Below w.heap.size w w' := by
  obtain ⟨n1, n2, n3, n4⟩ := hn
  go_enter Tryz.func46, Tryz.ntmps46
  go_wp2_with fail
  obtain ⟨d0, d1, _⟩ := (BoxF.new w 31 a).cells
  refine bodyPost_ret (v := .agg #[.int .i64 31, .int .u64 a]) (by simp [results, Tryz.results46, go_sem, d0, d1]) rfl ?_
  exact ⟨rfl, (Below.refl _ _).alloc (Nat.le_refl _) _⟩
/-- what Peek answers -/
def PeekPost (w : World) (m B : Nat) (V : Value × Value × Value) (T : Nat → Option Nat) (M : Nat → Nat) (rs ds : List Sp) (L S X a n : Nat) (e : Ending) (w' : World) : Prop :=
  ∃ x b, OffR (rs ++ ds) a n x b ∧ e = .returned (.tuple #[.int .u64 (if b then 0 else (Pl.num 8 (rdTo M a 8 n) : Nat) : Int), FaultV (if b then 30 else 0) x]) ∧ Mac w' m B V T M rs ds L S (up b X) ∧ Keeps (fun j => j = m) w w'
set_option maxRecDepth 100000 in
set_option maxHeartbeats 4000000 in
theorem peek_any {w : World} {m B : Nat} {V : Value × Value × Value} {T : Nat → Option Nat} {M : Nat → Nat} {rs ds : List Sp} {L S X a n : Nat} (h : Mac w m B V T M rs ds L S X) (ha : a ≤ 18446744073709551615) (hn : Wide n) (hX : X ≤ 4611686018427387904) :
    Calls Tryz.prog 21 #[.pointer (some ⟨m, 0, none⟩), .int .u64 (a : Int), .int .i64 (n : Int)] w (PeekPost w m B V T M rs ds L S X a n) := by
  have HA : Hid (∀ W, Below w.heap.size w W → Calls Tryz.prog 46 #[.pointer (some ⟨m, 0, none⟩), .int .u64 (a : Int), .int .i64 (n : Int)] W (AskPost W m B V T M rs ds L S X a n)) := fun W hW => askWidth_any (h.below hW) ha hn hX
  have HM : Hid (Mac w m B V T M rs ds L S X) := h
  have hml := h.lt
  clear h
  go_enter Tryz.func21, Tryz.ntmps21
  go_wp2_with fail
  refine (HA.out _ ((Below.refl _ _).alloc (Nat.le_refl _) _)).mono ?_
  rintro e w1 ⟨x, b, ho, rfl, hm1, hk1⟩
  have HOff : Hid (OffR (rs ++ ds) a n x b) := ho
  have HX1 : Hid (BoxF w1 w.heap.size 0 0) := (BoxF.new w 0 0).keeps hk1 (by omega)
  have HM1 : Hid (Mac w1 m B V T M rs ds L S (up b X)) := hm1
  have HK1 : Hid (Keeps (fun j => j = m) w w1) := (Keeps.alloc (S := fun j => j = m) w _).trans hk1 (fun _ _ e => e)
  obtain ⟨x0, x1, f0, f1⟩ := HX1.out.cells
  clear ho hm1 hk1 HA
  unfold FaultV
  cases b with
  | true =>
    simp only [if_true]
    go_wp2_with fail
    obtain ⟨W2, hW2⟩ : ∃ W2, w1.alloc (Obj.cells #[.int .i64 30, .int .u64 x] 71) = W2 := ⟨_, rfl⟩
    have HF2 : Hid (BoxF W2 w1.heap.size 30 x) := hW2 ▸ BoxF.new w1 30 x
    have HX2 : Hid (BoxF W2 w.heap.size 0 0) := hW2 ▸ HX1.out.below ((Below.refl _ _).alloc (Nat.le_refl _) _)
    have HB2 : Hid (Below w1.heap.size w1 W2) := hW2 ▸ (Below.refl _ _).alloc (Nat.le_refl _) _
    rw [hW2]
    have hne : w.heap.size ≠ w1.heap.size := Nat.ne_of_lt HX1.out.lt
    obtain ⟨x0, x1, f0, f1⟩ := HX2.out.cells
    obtain ⟨y0, y1, _, _⟩ := HF2.out.cells
    clear hW2
    go_region_held3 (fun w' => w'.cell? ⟨w1.heap.size, 0, none⟩ = some (.int .i64 30) ∧ w'.cell? ⟨w1.heap.size, 1, none⟩ = some (.int .u64 x)) (go_keep) (fail)
    go_wp2_with fail
    obtain ⟨d0, d1, _⟩ := BoxF.cells (w := ((W2.setCell ⟨w.heap.size, 0, none⟩ (.int .i64 30)).setCell ⟨w.heap.size, 1, none⟩ (.int .u64 x)).drew) (HX2.out.set 30 x)
    refine bodyPost_ret (v := .tuple #[.int .u64 0, .agg #[.int .i64 30, .int .u64 x]]) (by simp [results, Tryz.results21, go_sem, d0, d1]) rfl ?_
    have hk2 : Keeps (fun j => j = w.heap.size) W2 (((W2.setCell ⟨w.heap.size, 0, none⟩ (.int .i64 30)).setCell ⟨w.heap.size, 1, none⟩ (.int .u64 x)).drew) := (Keeps.two W2 w.heap.size (.int .i64 30) (.int .u64 x)).drew
    exact ⟨x, true, HOff.out, rfl, (HM1.out.below HB2.out).keeps hk2 (fun j hj e => by have := HM.out.mine_lt hj; omega), (HK1.out.trans (Keeps.of_below (S := fun _ => False) HB2.out) (fun _ _ h => h.elim)).trans hk2 (fun i hi e => absurd e (by omega))⟩
  | false =>
    simp only [Bool.false_eq_true, if_false]
    have hn8 : n ≤ 8 := by rcases hn with h | h | h | h <;> omega
    have hs8 := fun W g => slice8_h W g n hn8
    have hs9 := slice8_all
    have HRange : Hid (a + n ≤ 4294967296) := off_low HOff.out HM.out (by rcases hn with h | h | h | h <;> omega)
    go_wp2_with fail
    obtain ⟨W2, hW2⟩ : ∃ W2, (w1.alloc (Obj.cells #[.int .i64 0, .int .u64 x] 71)).alloc (Obj.cells #[.int .u8 0, .int .u8 0, .int .u8 0, .int .u8 0, .int .u8 0, .int .u8 0, .int .u8 0, .int .u8 0] 115) = W2 := ⟨_, rfl⟩
    have HB2 : Hid (Below w1.heap.size w1 W2) := hW2 ▸ ((Below.refl _ _).alloc (Nat.le_refl _) _).alloc (by simp) _
    have HX2 : Hid (BoxF W2 w.heap.size 0 0) := HX1.out.below HB2.out
    have HR2 : Hid (RowT W2 115 (w1.heap.size + 1) (List.replicate 8 0)) := by rw [← hW2]; exact heap_alloc_new' (by simp) _
    have HM2 : Hid (Mac W2 m B V T M rs ds L S X) := HM1.out.below HB2.out
    rw [hW2]
    have hne : w.heap.size ≠ w1.heap.size := Nat.ne_of_lt HX1.out.lt
    have hlt1 := HX1.out.lt
    obtain ⟨x0, x1, f0, f1⟩ := HX2.out.cells
    obtain ⟨_, _, _, c6, _⟩ := HM2.out.cells
    have HRd : Hid (Calls Tryz.prog 47 #[.map (some B), .int .u64 (a : Int), .slice (some ⟨w1.heap.size + 1, 0, none⟩) n 8] W2.drew fun e w' => e = .returned (.tuple #[]) ∧ RowT w' 115 (w1.heap.size + 1) (rdTo M a 8 n) ∧ Keeps (fun j => j = w1.heap.size + 1) W2.drew w') :=
      read_any (w := W2.drew) HM2.out.held HRange.out HR2.out (fun hf => by have := HM1.out.held.foot_lt hf; omega) hn8 hn8 (by decide)
    clear hW2
    go_region_held3 (fun w' => w'.cell? ⟨m, 6, none⟩ = some (.map (some B))) (go_keep) (first | (go_at_call 47; refine HRd.out.mono ?_; rintro e w3 ⟨rfl, hr3, hk3⟩; have HR3 : Hid (RowT w3 115 (w1.heap.size + 1) (rdTo M a 8 n)) := hr3; have HK3 : Hid (Keeps (fun j => j = w1.heap.size + 1) W2 w3) := keeps_drewn hk3; have c63 : w3.cell? ⟨m, 6, none⟩ = some (.map (some B)) := (World.cell?_of_block (w := W2) (a := ⟨m, 6, none⟩) (HK3.out.block m HM2.out.lt (by show ¬ m = _; have := HM1.out.lt; omega))).trans c6; clear hr3 hk3))
    have HX3 : Hid (BoxF w3 w.heap.size 0 0) := HX2.out.keeps HK3.out (by omega)
    obtain ⟨x0, x1, f0, f1⟩ := HX3.out.cells
    have HSl : Hid (Sl w3 (.slice (some ⟨w1.heap.size + 1, 0, none⟩) 8 8) (rdTo M a 8 n)) := rowT_sl HR3.out (rdTo_length _ _ _ _ hn8) (rdTo_small HM2.out.held.2.2.2.2.1 _ _ _)
    have HGt : Hid (Calls Tryz.prog 48 #[.slice (some ⟨w1.heap.size + 1, 0, none⟩) 8 8] w3 fun e w' => e = .returned (.tuple #[.int .u64 (Pl.num 8 (rdTo M a 8 n) : Nat), .bool true]) ∧ w' = w3) := get_u64_yes HSl.out (Nat.le_of_eq (rdTo_length _ _ _ _ hn8).symm)
    clear HSl c63 c6
    go_wp2_with (first | (go_at_call 48; refine HGt.out.mono ?_; rintro e w' ⟨rfl, hw⟩; have hw := hw.symm; subst hw))
    obtain ⟨d0, d1, _⟩ := (HX3.out.set 0 0).cells
    refine bodyPost_ret (v := .tuple #[.int .u64 ((Pl.num 8 (rdTo M a 8 n) : Nat) : Int), .agg #[.int .i64 0, .int .u64 0]]) (by simp [results, Tryz.results21, go_sem, d0, d1]) rfl ?_
    have hk2 := Keeps.two w3 w.heap.size (.int .i64 0) (.int .u64 0)
    have hx : x = 0 := (HOff.out.2 rfl).1
    refine ⟨x, false, HOff.out, by rw [hx]; rfl, (HM2.out.keeps HK3.out (fun j hj e => ?_)).keeps hk2 (fun j hj e => ?_), ((HK1.out.trans (Keeps.of_below (S := fun _ => False) HB2.out) (fun _ _ h => h.elim)).trans HK3.out (fun i hi e => absurd e ?_)).trans hk2 (fun i hi e => absurd e (by omega))⟩
    · have := HM.out.mine_lt hj; omega
    · have := HM.out.mine_lt hj; omega
    · omega
/-- what Load answers -/
def LoadPost (w : World) (m B : Nat) (V : Value × Value × Value) (T : Nat → Option Nat) (M : Nat → Nat) (rs ds : List Sp) (L S X a n : Nat) (e : Ending) (w' : World) : Prop :=
  ∃ x b, OffR (rs ++ ds) a n x b ∧ e = .returned (.tuple #[.int .u64 (if b then 0 else (Pl.num 8 (rdTo M a 8 n) : Nat) : Int), FaultV (if b then 30 else 0) x]) ∧ Mac w' m B V T M rs ds (up (!b) L) S (up b X) ∧ Keeps (fun j => j = m) w w'
set_option maxRecDepth 100000 in
set_option maxHeartbeats 4000000 in
theorem load_any {w : World} {m B : Nat} {V : Value × Value × Value} {T : Nat → Option Nat} {M : Nat → Nat} {rs ds : List Sp} {L S X a n : Nat} (h : Mac w m B V T M rs ds L S X) (ha : a ≤ 18446744073709551615) (hn : Wide n) (hX : X ≤ 4611686018427387904) (hL : L ≤ 4611686018427387904) :
    Calls Tryz.prog 18 #[.pointer (some ⟨m, 0, none⟩), .int .u64 (a : Int), .int .i64 (n : Int)] w (LoadPost w m B V T M rs ds L S X a n) := by
  have HA : Hid (∀ W, Below w.heap.size w W → Calls Tryz.prog 21 #[.pointer (some ⟨m, 0, none⟩), .int .u64 (a : Int), .int .i64 (n : Int)] W (PeekPost W m B V T M rs ds L S X a n)) := fun W hW => peek_any (h.below hW) ha hn hX
  have HM : Hid (Mac w m B V T M rs ds L S X) := h
  have hml := h.lt
  clear h
  go_enter Tryz.func18, Tryz.ntmps18
  go_wp2_with fail
  refine (HA.out _ ((Below.refl _ _).alloc (Nat.le_refl _) _)).mono ?_
  rintro e w1 ⟨x, b, ho, rfl, hm1, hk1⟩
  have HOff : Hid (OffR (rs ++ ds) a n x b) := ho
  have HX1 : Hid (BoxF w1 w.heap.size 0 0) := (BoxF.new w 0 0).keeps hk1 (by omega)
  have HM1 : Hid (Mac w1 m B V T M rs ds L S (up b X)) := hm1
  have HK1 : Hid (Keeps (fun j => j = m) w w1) := (Keeps.alloc (S := fun j => j = m) w _).trans hk1 (fun _ _ e => e)
  obtain ⟨x0, x1, f0, f1⟩ := HX1.out.cells
  have c0 := fun X => U64.cell_alloc' X HM1.out.cells.1
  have g0 := fun X : Obj => (HM1.out.below ((Below.refl _ _).alloc (Nat.le_refl _) X)).cells.2.2.2.2 0
  have hml1 := HM1.out.lt
  have hne : w.heap.size ≠ w1.heap.size := Nat.ne_of_lt HX1.out.lt
  have hlt1 := HX1.out.lt
  clear ho hm1 hk1 HA
  unfold FaultV
  cases b with
  | true =>
    simp only [if_true]
    go_wp2_with fail
    obtain ⟨W2, hW2⟩ : ∃ W2, w1.alloc (Obj.cells #[.int .i64 30, .int .u64 x] 71) = W2 := ⟨_, rfl⟩
    have HF2 : Hid (BoxF W2 w1.heap.size 30 x) := hW2 ▸ BoxF.new w1 30 x
    have HX2 : Hid (BoxF W2 w.heap.size 0 0) := hW2 ▸ HX1.out.below ((Below.refl _ _).alloc (Nat.le_refl _) _)
    have HB2 : Hid (Below w1.heap.size w1 W2) := hW2 ▸ (Below.refl _ _).alloc (Nat.le_refl _) _
    rw [hW2]
    obtain ⟨x0, x1, f0, f1⟩ := HX2.out.cells
    obtain ⟨y0, y1, _, _⟩ := HF2.out.cells
    clear hW2 c0 g0
    go_region_held3 (fun w' => w'.cell? ⟨w1.heap.size, 0, none⟩ = some (.int .i64 30) ∧ w'.cell? ⟨w1.heap.size, 1, none⟩ = some (.int .u64 x)) (go_keep) (fail)
    go_wp2_with fail
    obtain ⟨d0, d1, _⟩ := BoxF.cells (w := ((W2.setCell ⟨w.heap.size, 0, none⟩ (.int .i64 30)).setCell ⟨w.heap.size, 1, none⟩ (.int .u64 x)).drew) (HX2.out.set 30 x)
    refine bodyPost_ret (v := .tuple #[.int .u64 0, .agg #[.int .i64 30, .int .u64 x]]) (by simp [results, Tryz.results18, go_sem, d0, d1]) rfl ?_
    have hk2 : Keeps (fun j => j = w.heap.size) W2 (((W2.setCell ⟨w.heap.size, 0, none⟩ (.int .i64 30)).setCell ⟨w.heap.size, 1, none⟩ (.int .u64 x)).drew) := (Keeps.two W2 w.heap.size (.int .i64 30) (.int .u64 x)).drew
    exact ⟨x, true, HOff.out, rfl, (HM1.out.below HB2.out).keeps hk2 (fun j hj e => by have := HM.out.mine_lt hj; omega), (HK1.out.trans (Keeps.of_below (S := fun _ => False) HB2.out) (fun _ _ h => h.elim)).trans hk2 (fun i hi e => absurd e (by omega))⟩
  | false =>
    simp only [Bool.false_eq_true, if_false]
    obtain ⟨num, hnum⟩ : ∃ num, num = Pl.num 8 (rdTo M a 8 n) := ⟨_, rfl⟩
    rw [← hnum]
    have HNum : Hid (num = Pl.num 8 (rdTo M a 8 n)) := hnum
    clear hnum
    go_wp2_with fail
    obtain ⟨W2, hW2⟩ : ∃ W2, (w1.setCell ⟨m, 0, none⟩ (.int .i64 ((L : Int) + 1))).alloc (Obj.cells #[.int .i64 0, .int .u64 x] 71) = W2 := ⟨_, rfl⟩
    have HF2 : Hid (BoxF W2 w1.heap.size 0 x) := by rw [← hW2]; exact heap_alloc_new' (by simp [World.setCell]) _
    have HX2 : Hid (BoxF W2 w.heap.size 0 0) := by rw [← hW2]; exact (HX1.out.keeps (Keeps.setCell _ _ _ _) (by omega)).below ((Below.refl _ _).alloc (Nat.le_refl _) _)
    have HK2 : Hid (Keeps (fun j => j = m) w1 W2) := by rw [← hW2]; exact (Keeps.setCell _ _ _ _).trans (Keeps.alloc (S := fun j => j = m) _ _) (fun _ _ e => e)
    have HM2 : Hid (Mac W2 m B V T M rs ds (L + 1) S X) := by
      refine (show Mac w1 m B V T M rs ds L S X from HM1.out).recount HK2.out (fun h0 => ?_)
      rw [← hW2, Below.heap_alloc _ _ m (by simp [World.setCell]; exact hml1)]
      simp only [World.setCell, Array.getElem?_modify]
      rw [if_pos trivial, h0]
      simp
    rw [hW2]
    obtain ⟨x0, x1, f0, f1⟩ := HX2.out.cells
    obtain ⟨y0, y1, _, _⟩ := HF2.out.cells
    clear hW2 c0 g0
    go_region_held3 (fun w' => w'.cell? ⟨w1.heap.size, 0, none⟩ = some (.int .i64 0) ∧ w'.cell? ⟨w1.heap.size, 1, none⟩ = some (.int .u64 x)) (go_keep) (fail)
    go_wp2_with fail
    obtain ⟨d0, d1, _⟩ := BoxF.cells (w := ((W2.setCell ⟨w.heap.size, 0, none⟩ (.int .i64 0)).setCell ⟨w.heap.size, 1, none⟩ (.int .u64 x)).drew) (HX2.out.set 0 x)
    refine bodyPost_ret (v := .tuple #[.int .u64 (num : Int), .agg #[.int .i64 0, .int .u64 x]]) (by simp [results, Tryz.results18, go_sem, d0, d1]) rfl ?_
    have hk2 : Keeps (fun j => j = w.heap.size) W2 (((W2.setCell ⟨w.heap.size, 0, none⟩ (.int .i64 0)).setCell ⟨w.heap.size, 1, none⟩ (.int .u64 x)).drew) := (Keeps.two W2 w.heap.size (.int .i64 0) (.int .u64 x)).drew
    exact ⟨x, false, HOff.out, by rw [HNum.out]; rfl, HM2.out.keeps hk2 (fun j hj e => by have := HM.out.mine_lt hj; omega), (HK1.out.trans HK2.out (fun _ _ e => e)).trans hk2 (fun i hi e => absurd e (by omega))⟩
end Go.Proofs.YtddgoncbdlhhhaaGreat
/- Store. Own work. -/
namespace Go.Proofs.YtddgoncbdlhhhaaGreat
open Go.RowKit Go.Maps Go.Proofs.YtddgoncbdlhhhaaGreat.Sp
def StorePost (w : World) (m B : Nat) (V : Value × Value × Value) (T : Nat → Option Nat) (M : Nat → Nat) (rs ds : List Sp) (L S X a n v : Nat) (e : Ending) (w' : World) : Prop :=
  ∃ x b, OffR (rs ++ ds) a n x b ∧ e = .returned (FaultV (if b then 30 else 0) x) ∧ Keeps (fun j => j = m ∨ Foot B T j) w w' ∧ (b = true → Mac w' m B V T M rs ds L S (X + 1)) ∧ (b = false → ∃ T', Mac w' m B V T' (putAt M a ((Pl.le 8 v).take n)) rs ds L (S + 1) X ∧ Grows w.heap.size T T')
set_option maxRecDepth 100000 in
set_option maxHeartbeats 4000000 in
theorem store_any {w : World} {m B : Nat} {V : Value × Value × Value} {T : Nat → Option Nat} {M : Nat → Nat} {rs ds : List Sp} {L S X a n v : Nat} (h : Mac w m B V T M rs ds L S X) (ha : a ≤ 18446744073709551615) (hn : Wide n) (hv : v ≤ 18446744073709551615) (hX : X ≤ 4611686018427387904) (hS : S ≤ 4611686018427387904) :
    Calls Tryz.prog 23 #[.pointer (some ⟨m, 0, none⟩), .int .u64 (a : Int), .int .i64 (n : Int), .int .u64 (v : Int)] w (StorePost w m B V T M rs ds L S X a n v) := by
  have HA : Hid (∀ W, Below w.heap.size w W → Calls Tryz.prog 46 #[.pointer (some ⟨m, 0, none⟩), .int .u64 (a : Int), .int .i64 (n : Int)] W (AskPost W m B V T M rs ds L S X a n)) := fun W hW => askWidth_any (h.below hW) ha hn hX
  have HM : Hid (Mac w m B V T M rs ds L S X) := h
  have hml := h.lt
  clear h
  go_enter Tryz.func23, Tryz.ntmps23
  go_wp2_with fail
  refine (HA.out _ ((Below.refl _ _).alloc (Nat.le_refl _) _)).mono ?_
  rintro e w1 ⟨x, b, ho, rfl, hm1, hk1⟩
  have HOff : Hid (OffR (rs ++ ds) a n x b) := ho
  have HX1 : Hid (BoxF w1 w.heap.size 0 0) := (BoxF.new w 0 0).keeps hk1 (by omega)
  have HM1 : Hid (Mac w1 m B V T M rs ds L S (up b X)) := hm1
  have HK1 : Hid (Keeps (fun j => j = m) w w1) := (Keeps.alloc (S := fun j => j = m) w _).trans hk1 (fun _ _ e => e)
  have hne : w.heap.size ≠ w1.heap.size := Nat.ne_of_lt HX1.out.lt
  have hlt1 := HX1.out.lt
  clear ho hm1 hk1 HA
  unfold FaultV
  cases b with
  | true =>
    simp only [if_true]
    obtain ⟨x0, x1, f0, f1⟩ := HX1.out.cells
    have y0 := fun X => (HX1.out.below ((Below.refl _ _).alloc (Nat.le_refl _) X)).cells.1
    have y1 := fun X => (HX1.out.below ((Below.refl _ _).alloc (Nat.le_refl _) X)).cells.2.1
    have y2 := fun X => (HX1.out.below ((Below.refl _ _).alloc (Nat.le_refl _) X)).cells.2.2.1
    have y3 := fun X => (HX1.out.below ((Below.refl _ _).alloc (Nat.le_refl _) X)).cells.2.2.2
    go_wp2_with fail
    have hbx := (HX1.out.set 30 x).below ((Below.refl _ _).alloc (Nat.le_refl _) (Obj.cells #[.int .i64 30, .int .u64 x] 71))
    obtain ⟨d0, d1, _⟩ := hbx.cells
    refine bodyPost_ret (v := .agg #[.int .i64 30, .int .u64 x]) (by simp [results, Tryz.results23, go_sem, d0, d1]) rfl ?_
    have hk2 : Keeps (fun j => j = w.heap.size) w1 (((w1.setCell ⟨w.heap.size, 0, none⟩ (.int .i64 30)).setCell ⟨w.heap.size, 1, none⟩ (.int .u64 x)).alloc (Obj.cells #[.int .i64 30, .int .u64 x] 71)) := (Keeps.two w1 w.heap.size (.int .i64 30) (.int .u64 x)).trans (Keeps.alloc (S := fun _ => False) _ _) (fun _ _ h => h.elim)
    exact ⟨x, true, HOff.out, rfl, (HK1.out.mono (fun _ _ e => .inl e)).trans hk2 (fun i hi e => absurd e (by omega)), fun _ => HM1.out.keeps hk2 (fun j hj e => by have := HM.out.mine_lt hj; omega), fun h => by cases h⟩
  | false =>
    simp only [Bool.false_eq_true, if_false]
    have hn0 : 0 < n ∧ n ≤ 8 := by rcases hn with h | h | h | h <;> omega
    have HLow : Hid (a + n ≤ 4294967296) := off_low HOff.out HM.out hn0.1
    have HXz : Hid (x = 0) := (HOff.out.2 rfl).1
    go_wp2_with fail
    obtain ⟨W2, hW2⟩ : ∃ W2, w1.alloc (Obj.cells #[.int .i64 0, .int .u64 x] 71) = W2 := ⟨_, rfl⟩
    have HB2 : Hid (Below w1.heap.size w1 W2) := hW2 ▸ (Below.refl _ _).alloc (Nat.le_refl _) _
    have HX2 : Hid (BoxF W2 w.heap.size 0 0) := HX1.out.below HB2.out
    have HM2 : Hid (Mac W2 m B V T M rs ds L S X) := HM1.out.below HB2.out
    rw [hW2]
    clear hW2
    have c6 := HM2.out.cells.2.2.2.1
    have HPut : Hid (Calls Tryz.prog 53 #[.slice none 0 0, .int .u64 (v : Int)] W2.drew fun e w3 => ∃ g cap, e = .returned (.slice (some ⟨g, 0, none⟩) 8 cap) ∧ n ≤ cap ∧ cap ≤ 9223372036854775807 ∧ w3.cell? ⟨m, 6, none⟩ = some (.map (some B)) ∧ Hid (Below W2.heap.size W2 w3) ∧ Hid (Sl w3 (.slice (some ⟨g, 0, none⟩) 8 cap) (Pl.le 8 v) ∧ W2.heap.size ≤ g ∧ g < w3.heap.size)) := by
      refine (put_nil W2.drew hv).mono ?_
      rintro e w3 ⟨v3, rfl, ho3, hb3⟩
      have hsl := ho3.sl (Pl.le_small 8 v)
      obtain ⟨g, cap, e, hg1, hg2, hg3, hg4⟩ := ho3.form (by rw [Pl.le_length]; omega)
      rw [Pl.le_length] at e hg3
      subst e
      unfold maxLen at hg4
      refine ⟨g, cap, rfl, by omega, by omega, ?_, ⟨hb3.os, hb3.tape, hb3.output, hb3.size, hb3.block⟩, hsl, hg1, hg2⟩
      exact (hb3.cell (World.block_lt_of_cell? W2 _ c6)).trans c6
    have HLay : Hid (∀ w3 g cap, Below W2.heap.size W2 w3 → Sl w3 (.slice (some ⟨g, 0, none⟩) 8 cap) (Pl.le 8 v) ∧ W2.heap.size ≤ g ∧ g < w3.heap.size → Calls Tryz.prog 52 #[.map (some B), .int .u64 (a : Int), .slice (some ⟨g, 0, none⟩) n cap] w3 fun e w4 => e = .returned (.tuple #[]) ∧ w4.cell? ⟨m, 6, none⟩ = some (.map (some B)) ∧ Hid (∃ T', Held w4 B T' (putAt M a ((Pl.le 8 v).take n)) ∧ Keeps (Foot B T) w3 w4 ∧ Grows w3.heap.size T T')) := fun w3 g cap hb3 ⟨h1, h2, h3⟩ => by
      have hl8 : ((Pl.le 8 v).take n).length = n := by rw [List.length_take, Pl.le_length]; omega
      have h1' : Sl w3 (.slice (some ⟨g, 0, none⟩) (Pl.le 8 v).length cap) (Pl.le 8 v) := by rw [Pl.le_length]; exact h1
      have hs := h1'.front n (by rw [Pl.le_length]; omega)
      have := lay_some (zs := (Pl.le 8 v).take n) (a := a) (HM2.out.below hb3).held (by rw [hl8]; exact HLow.out) (by rw [hl8]; exact hs) (fun hf => by have := HM2.out.held.foot_lt hf; omega) h3
      rw [hl8] at this
      refine this.mono ?_
      rintro e w4 ⟨rfl, T', h4, h5, h6⟩
      refine ⟨rfl, ?_, T', h4, h5, h6⟩
      have hM3 := HM2.out.below hb3
      have c63 := hM3.cells.2.2.2.1
      refine (World.cell?_of_block (w := w3) (a := ⟨m, 6, none⟩) (h5.block m hM3.lt ?_)).trans c63
      obtain ⟨_, _, _, _, _, _, _, _, _, _, h9, _⟩ := hM3
      exact h9
    go_region_held3 (fun w' => w'.cell? ⟨m, 6, none⟩ = some (.map (some B))) (go_keep) (first | (go_at_call 53; refine HPut.out.mono ?_; rintro e w3 ⟨g, cap, rfl, hc1, hc2, c63, HB3, HS3⟩) | (go_at_call 52; refine (HLay.out _ _ _ HB3.out HS3.out).mono ?_; rintro e w4 ⟨rfl, c64, HL4⟩))
    obtain ⟨T', hH4, hK4, hG4⟩ := HL4.out
    have HM4 : Hid (Mac w4 m B V T' (putAt M a ((Pl.le 8 v).take n)) rs ds L S X) := (HM2.out.below HB3.out).laid hH4 hK4 hG4
    have hXf : ¬ Foot B T w.heap.size := fun hf => by have := HM.out.held.foot_lt hf; omega
    have HX4 : Hid (BoxF w4 w.heap.size 0 0) := (HX2.out.below HB3.out).keeps hK4 hXf
    have HK4 : Hid (Keeps (fun j => j = m ∨ Foot B T j) w w4) := ((HK1.out.mono (fun _ _ e => .inl e)).trans (Keeps.of_below (S := fun _ => False) (HB2.out.trans (HB3.out.mono HB2.out.size))) (fun _ _ h => h.elim)).trans hK4 (fun _ _ h => .inr h)
    have HG4 : Hid (Grows w.heap.size T T') := fun k g' e => (hG4 k g' e).imp id (fun h => by have := HB2.out.size; have := HB3.out.size; omega)
    have HNb : Hid (¬ Foot B T' w.heap.size) := fun hf => hXf (hG4.foot hf (by have := HB2.out.size; have := HB3.out.size; omega))
    have c1 := HM4.out.cells.2.1
    have g1 := HM4.out.cells.2.2.2.2 1
    obtain ⟨x0, x1, f0, f1⟩ := HX4.out.cells
    have HX5 : Hid (BoxF (w4.setCell ⟨m, 1, none⟩ (.int .i64 ((S : Int) + 1))) w.heap.size 0 0) := HX4.out.keeps (Keeps.setCell _ _ _ _) (by omega)
    obtain ⟨z0, z1, k0, k1⟩ := HX5.out.cells
    clear hH4 hK4 hG4 c6 c63 c64 HPut HLay HL4
    go_wp2_with fail
    obtain ⟨d0, d1, _⟩ := (HX5.out.set 0 0).cells
    refine bodyPost_ret (v := .agg #[.int .i64 0, .int .u64 0]) (by simp [results, Tryz.results23, go_sem, d0, d1]) rfl ?_
    have hk5 := Keeps.setCell w4 m 1 (.int .i64 ((S : Int) + 1))
    have hk6 := Keeps.two (w4.setCell ⟨m, 1, none⟩ (.int .i64 ((S : Int) + 1))) w.heap.size (.int .i64 0) (.int .u64 0)
    have hm5 : Mac (w4.setCell ⟨m, 1, none⟩ (.int .i64 ((S : Int) + 1))) m B V T' (putAt M a ((Pl.le 8 v).take n)) rs ds L (S + 1) X := HM4.out.recount hk5 (fun h0 => by
      simp only [World.setCell, Array.getElem?_modify]
      rw [if_pos trivial, h0]
      simp)
    refine ⟨x, false, HOff.out, by rw [HXz.out]; rfl, (HK4.out.trans hk5 (fun _ _ e => .inl e)).trans hk6 (fun i hi e => absurd e (by omega)), fun h => (by cases h), fun _ => ⟨T', hm5.keeps hk6 (fun j hj e => ?_), HG4.out⟩⟩
    subst e
    rcases hj with h | h | ⟨u, hu, e⟩
    · omega
    · exact HNb.out h
    · have := HM.out.mine_lt (.inr (.inr ⟨u, hu, e⟩)); omega
end Go.Proofs.YtddgoncbdlhhhaaGreat
/- refusal: why a range may not be laid beside the ground. Own work. -/
namespace Go.Proofs.YtddgoncbdlhhhaaGreat
open Go.RowKit Go.Maps Go.Proofs.YtddgoncbdlhhhaaGreat.Sp
def refuseV (G : List Sp) (a s most : Int) : Int :=
  if s = 0 ∨ s % 4096 ≠ 0 ∨ most < s then 32 else if a % 4096 ≠ 0 then 33 else if 4294967296 ≤ a + (s - 1) then 34 else if touchesB G (a, a + (s - 1)) then 35 else 0
set_option maxRecDepth 100000 in
set_option maxHeartbeats 4000000 in
theorem refusal_any {w : World} {vg : Value} {G : List Sp} {a s most : Int} (hv : U64.SV w vg G) (hc : Canon 18446744073709551615 G) (hl : G.length ≤ 64) (ha : 0 ≤ a ∧ a ≤ 18446744073709551615) (hs : 0 ≤ s ∧ s ≤ 18446744073709551615) (hm : 0 ≤ most ∧ most ≤ 18446744073709551615) :
    Calls Tryz.prog 72 #[.agg #[vg], .agg #[.int .u64 a, .int .u64 s], .int .u64 most] w fun e w' => e = .returned (.int .i64 (refuseV G a s most)) ∧ Below w.heap.size w w' := by
  have HB0 : Hid (∀ X Y, Below w.heap.size w ((w.alloc X).alloc Y)) := fun X Y => ((Below.refl _ _).alloc (Nat.le_refl _) _).alloc (by simp) _
  have HV : Hid (U64.SV w vg G) := hv
  have HC : Hid (Canon 18446744073709551615 G) := hc
  clear hv hc
  obtain ⟨a0, a1⟩ := ha
  obtain ⟨s0, s1⟩ := hs
  obtain ⟨m0, m1⟩ := hm
  by_cases c1 : s = 0
  · subst c1
    have HE : Hid (refuseV G a 0 most = 32) := if_pos (.inl rfl)
    have HAdd : Hid (∀ W, Calls Tryz.prog 80 #[.int .u64 a, .int .u64 18446744073709551615] W fun e w' => e = .returned (.tuple #[.int .u64 (U64.addB a 18446744073709551615).1, .bool (U64.addB a 18446744073709551615).2]) ∧ w' = W) := fun W => U64.add_any (by omega) (by omega) W
    go_enter Tryz.func72, Tryz.ntmps72
    go_wp2_with (first | (go_at_call 80; refine (HAdd.out _).mono ?_; rintro e w' ⟨rfl, hw'⟩; have hw' := hw'.symm; subst hw'))
    go_ret
    exact ⟨by rw [HE.out]; rfl, HB0.out _ _⟩
  · have hw1 : IntKind.u64.wrap (s - 1) = s - 1 := U64.wrap_in (by omega) (by omega)
    obtain ⟨x, y, hxy⟩ : ∃ x y, U64.addB a (s - 1) = (x, y) := ⟨_, _, rfl⟩
    have HXY : Hid (U64.addB a (s - 1) = (x, y)) := hxy
    have HAdd : Hid (∀ W, Calls Tryz.prog 80 #[.int .u64 a, .int .u64 (s - 1)] W fun e w' => e = .returned (.tuple #[.int .u64 x, .bool y]) ∧ w' = W) := fun W => by
      have := U64.add_any (a := a) (b := s - 1) (by omega) (by omega) W
      rw [hxy] at this
      exact this
    clear hxy
    by_cases c2 : s % 4096 = 0
    · by_cases c3 : most < s
      · have HE : Hid (refuseV G a s most = 32) := if_pos (.inr (.inr c3))
        go_enter Tryz.func72, Tryz.ntmps72
        go_wp2_with (first | (go_at_call 80; refine (HAdd.out _).mono ?_; rintro e w' ⟨rfl, hw'⟩; have hw' := hw'.symm; subst hw'))
        go_ret
        exact ⟨by rw [HE.out]; rfl, HB0.out _ _⟩
      · have e1 : (s == 0) = false := by simpa using c1
        have e3 : decide (most < s) = false := decide_eq_false c3
        have HR : Hid (refuseV G a s most = if a % 4096 ≠ 0 then 33 else if 4294967296 ≤ a + (s - 1) then 34 else if touchesB G (a, a + (s - 1)) then 35 else 0) := if_neg (by omega)
        by_cases c4 : a % 4096 = 0
        · by_cases c5 : 4294967296 ≤ a + (s - 1)
          · have HE : Hid (refuseV G a s most = 34) := by rw [HR.out, if_neg (by omega), if_pos c5]; exact (rfl : _ = _)
            have hy : y = false ∨ (y = true ∧ 4294967296 ≤ x) := by
              have := HXY.out
              unfold U64.addB at this
              split at this
              · cases this; exact .inr ⟨rfl, c5⟩
              · cases this; exact .inl rfl
            rcases hy with rfl | ⟨rfl, hx⟩
            · go_enter Tryz.func72, Tryz.ntmps72
              go_wp2_with (first | (go_at_call 80; refine (HAdd.out _).mono ?_; rintro e w' ⟨rfl, hw'⟩; have hw' := hw'.symm; subst hw'))
              go_ret
              exact ⟨by rw [HE.out]; rfl, HB0.out _ _⟩
            · go_enter Tryz.func72, Tryz.ntmps72
              go_wp2_with (first | (go_at_call 80; refine (HAdd.out _).mono ?_; rintro e w' ⟨rfl, hw'⟩; have hw' := hw'.symm; subst hw'))
              go_ret
              exact ⟨by rw [HE.out]; rfl, HB0.out _ _⟩
          · have hxy2 : x = a + (s - 1) ∧ y = true := by
              have := HXY.out
              unfold U64.addB at this
              rw [if_pos (by omega)] at this
              cases this; exact ⟨rfl, rfl⟩
            obtain ⟨hx, rfl⟩ := hxy2
            have hx2 : x < 4294967296 := by omega
            obtain ⟨tb, htb⟩ : ∃ tb, tb = touchesB G (a, x) := ⟨_, rfl⟩
            have HE : Hid (refuseV G a s most = if tb then 35 else 0) := by show _ = _; rw [HR.out, if_neg (by omega), if_neg c5, htb, hx]
            have HT : Hid (∀ W, Below w.heap.size w W → Calls Tryz.prog 93 #[.agg #[vg], .agg #[.int .u64 a, .int .u64 x]] W fun e w' => e = .returned (.bool tb) ∧ Below W.heap.size W w') := fun W hW => by
              rw [htb]
              exact U64.touches_any (x := (a, x)) (HV.out.below hW (Nat.le_refl _)) HC.out (by omega)
            clear hx htb
            cases tb with
            | true =>
              go_enter Tryz.func72, Tryz.ntmps72
              go_wp2_with (first | (go_at_call 80; refine (HAdd.out _).mono ?_; rintro e w' ⟨rfl, hw'⟩; have hw' := hw'.symm; subst hw'))
              refine (HT.out _ (HB0.out _ _)).mono ?_
              rintro e w2 ⟨rfl, hb2⟩
              have HB2 : Hid (Below w.heap.size w w2) := (HB0.out _ _).trans (hb2.mono (by simp; omega))
              clear hb2
              go_wp2_with fail
              go_ret
              exact ⟨by rw [HE.out]; rfl, HB2.out⟩
            | false =>
              go_enter Tryz.func72, Tryz.ntmps72
              go_wp2_with (first | (go_at_call 80; refine (HAdd.out _).mono ?_; rintro e w' ⟨rfl, hw'⟩; have hw' := hw'.symm; subst hw'))
              refine (HT.out _ (HB0.out _ _)).mono ?_
              rintro e w2 ⟨rfl, hb2⟩
              have HB2 : Hid (Below w.heap.size w w2) := (HB0.out _ _).trans (hb2.mono (by simp; omega))
              clear hb2
              go_wp2_with fail
              go_ret
              exact ⟨by rw [HE.out]; rfl, HB2.out⟩
        · have HE : Hid (refuseV G a s most = 33) := by rw [HR.out]; exact if_pos c4
          go_enter Tryz.func72, Tryz.ntmps72
          go_wp2_with (first | (go_at_call 80; refine (HAdd.out _).mono ?_; rintro e w' ⟨rfl, hw'⟩; have hw' := hw'.symm; subst hw'))
          go_ret
          exact ⟨by rw [HE.out]; rfl, HB0.out _ _⟩
    · have HE : Hid (refuseV G a s most = 32) := if_pos (.inr (.inl c2))
      go_enter Tryz.func72, Tryz.ntmps72
      go_wp2_with (first | (go_at_call 80; refine (HAdd.out _).mono ?_; rintro e w' ⟨rfl, hw'⟩; have hw' := hw'.symm; subst hw'))
      go_ret
      exact ⟨by rw [HE.out]; rfl, HB0.out _ _⟩
end Go.Proofs.YtddgoncbdlhhhaaGreat
