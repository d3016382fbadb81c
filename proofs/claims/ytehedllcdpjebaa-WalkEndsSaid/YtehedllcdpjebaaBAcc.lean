/- askWidth; Peek, Load, Store. Own work. -/
import Derived.Test.YtehedllcdpjebaaBAsk
import Derived.Test.YtehedllcdpjebaaBPut
namespace Go.Proofs.Ytehedllcdpjebaa
open Go.RowKit Go.Maps Go.Proofs.Ytehedllcdpjebaa.Sp
theorem Keeps.two (w : World) (b : Nat) (u v : Value) : Keeps (fun j => j = b) w ((w.setCell ⟨b, 0, none⟩ u).setCell ⟨b, 1, none⟩ v) :=
  (Keeps.setCell w b 0 u).trans (Keeps.setCell _ b 1 v) (fun _ _ e => e)
theorem slice8_h (w : World) (g n : Nat) (hn : n ≤ 8) : (Instr.sliceAt 93 (.pointer (some ⟨g, 0, none⟩)) none (some (.int .i64 (n : Int))) none).run Try.prog w = .ok (.slice (some ⟨g, 0, none⟩) n 8) w := by
  obtain ⟨i, hi, _, hz1, _⟩ := info_parts info_byte
  have hs : (sizeOf 5).run Try.prog w = .ok 1 w := by simp only [sizeOf, typeInfo, Sem.run_bind, run_program, Result.andThen_ok, hi, Sem.run_pure, hz1]
  have hu : Try.prog.underlying 93 = some (.array 8 5) := Try.underlying93
  have hb : ∀ code, (Instr.sliceBound (.int .i64 (n : Int)) 8 code).run Try.prog w = .ok n w := fun code => by
    have h1 : (0 : Int) ≤ (n : Int) ∧ (n : Int) ≤ ((8 : Nat) : Int) := by omega
    simp only [Instr.sliceBound, asIntOf, Sem.run_bind, Sem.run_pure, Result.andThen_ok, if_pos h1, Int.toNat_natCast]
  have e : (⟨g, 0, none⟩ : Addr).add (0 * 1) = ⟨g, 0, none⟩ := by rw [Addr.add_mid]
  simp only [Instr.sliceAt, Instr.sureAddr, run_underlying hu, Sem.run_bind, Result.andThen_ok, Sem.run_pure, Instr.sliceBounds, hb, hs]
  rw [if_neg (by omega), e]
  rfl
theorem slice8_all (w : World) (g : Nat) : (Instr.sliceAt 93 (.pointer (some ⟨g, 0, none⟩)) none none none).run Try.prog w = .ok (.slice (some ⟨g, 0, none⟩) 8 8) w := by
  obtain ⟨i, hi, _, hz1, _⟩ := info_parts info_byte
  have hs : (sizeOf 5).run Try.prog w = .ok 1 w := by simp only [sizeOf, typeInfo, Sem.run_bind, run_program, Result.andThen_ok, hi, Sem.run_pure, hz1]
  have hu : Try.prog.underlying 93 = some (.array 8 5) := Try.underlying93
  have e : (⟨g, 0, none⟩ : Addr).add (0 * 1) = ⟨g, 0, none⟩ := by rw [Addr.add_mid]
  simp only [Instr.sliceAt, Instr.sureAddr, run_underlying hu, Sem.run_bind, Result.andThen_ok, Sem.run_pure, Instr.sliceBounds, hs]
  rw [if_neg (by omega), e]
theorem heap_alloc_new' {w : World} {n : Nat} (h : w.heap.size = n) (o : Obj) : (w.alloc o).heap[n]? = some o := by
  subst h; exact heap_alloc_new w o
theorem keeps_drewn {Z : Nat → Prop} {w w' : World} (h : Keeps Z w.drew w') : Keeps Z w w' := ⟨h.os, h.tape, h.output, h.size, h.block⟩
theorem rdTo_small {M : Nat → Nat} (hM : ∀ p, M p < 256) (a C i : Nat) : ∀ z ∈ rdTo M a C i, z < 256 := by
  intro z hz
  rcases List.mem_append.1 hz with h | h
  · obtain ⟨j, _, rfl⟩ := List.mem_map.1 h
    exact hM _
  · rw [List.eq_of_mem_replicate h]; decide
theorem rowT_sl {w : World} {t : TypeId} {g : Nat} {L : List Nat} (h : RowT w t g L) {n : Nat} (hn : L.length = n) (hz : ∀ z ∈ L, z < 256) (hm : n ≤ maxLen := by decide) : Sl w (.slice (some ⟨g, 0, none⟩) n n) L := by
  subst hn
  refine ⟨_, L.length, rfl, Nat.le_refl _, hm, hz, by simp, fun i hi => ⟨g, 0, rfl, ?_⟩⟩
  rw [Nat.zero_add, cell_of_row w g i _ _ _ h, List.getElem?_toArray, bvs_get _ _ hi]
theorem off_low {w : World} {m B : Nat} {V : Value × Value × Value} {T : Nat → Option Nat} {M : Nat → Nat} {rs ds : List Sp} {L S X a n : Nat} {x : Int} (h : OffR (rs ++ ds) a n x false) (hM : Mac w m B V T M rs ds L S X) (hn : 0 < n) : a + n ≤ 4294967296 := by
  obtain ⟨G, _, _, _, _, _, _, h6, _⟩ := hM
  obtain ⟨r, hr, h1, h2⟩ := (h.2 rfl).2 (n - 1) (by omega)
  have := h6 r hr
  omega
def Wide (n : Nat) : Prop := n = 1 ∨ n = 2 ∨ n = 4 ∨ n = 8
set_option maxRecDepth 100000 in
set_option maxHeartbeats 4000000 in
theorem askWidth_any {w : World} {m B : Nat} {V : Value × Value × Value} {T : Nat → Option Nat} {M : Nat → Nat} {rs ds : List Sp} {L S X a n : Nat} (h : Mac w m B V T M rs ds L S X) (ha : a ≤ 18446744073709551615) (hn : Wide n) (hX : X ≤ 4611686018427387904) :
    Calls Try.prog 28 #[.pointer (some ⟨m, 0, none⟩), .int .u64 (a : Int), .int .i64 (n : Int)] w (AskPost w m B V T M rs ds L S X a n) := by
  have HA : Hid (∀ W, Below w.heap.size w W → Calls Try.prog 48 #[.pointer (some ⟨m, 0, none⟩), .int .u64 (a : Int), .int .i64 (n : Int)] W (AskPost W m B V T M rs ds L S X a n)) := fun W hW => ask_any (h.below hW) ha (by rcases hn with h | h | h | h <;> omega) hX
  have HM : Hid (Mac w m B V T M rs ds L S X) := h
  have hml := h.lt
  clear h
  rcases hn with rfl | rfl | rfl | rfl
  all_goals
    go_enter Try.func28, Try.ntmps28
    go_wp2_with fail
    refine (HA.out _ ((Below.refl _ _).alloc (Nat.le_refl _) _)).mono ?_
    rintro e w1 ⟨x, b, ho, rfl, hm1, hk1⟩
    have HOff : Hid (OffR (rs ++ ds) a _ x b) := ho
    have HX1 : Hid (BoxF w1 w.heap.size 0 0) := (BoxF.new w 0 0).keeps hk1 (by omega)
    have HM1 : Hid (Mac w1 m B V T M rs ds L S (up b X)) := hm1
    have HK1 : Hid (Keeps (fun j => j = m) w w1) := (Keeps.alloc (S := fun j => j = m) w _).trans hk1 (fun _ _ e => e)
    obtain ⟨x0, x1, f0, f1⟩ := HX1.out.cells
    clear ho hm1 hk1 HA
    unfold FaultV
    obtain ⟨why, hwhy⟩ : ∃ why, why = (if b = true then (30 : Int) else 0) := ⟨_, rfl⟩
    have HWhy : Hid (why = (if b = true then (30 : Int) else 0)) := hwhy
    rw [← hwhy]
    clear hwhy
    go_wp2_with fail
    obtain ⟨d0, d1, _⟩ := (HX1.out.set why x).cells
    refine bodyPost_ret (v := .agg #[.int .i64 why, .int .u64 x]) (by simp [results, Try.results28, go_sem, d0, d1]) rfl ?_
    have hk2 := Keeps.two w1 w.heap.size (.int .i64 why) (.int .u64 x)
    exact ⟨x, b, HOff.out, by rw [HWhy.out]; rfl, HM1.out.keeps hk2 (fun j hj e => by have := HM.out.mine_lt hj; omega), HK1.out.trans hk2 (fun i hi e => absurd e (by omega))⟩
set_option maxRecDepth 100000 in
set_option maxHeartbeats 4000000 in
theorem askWidth_not {w : World} {m : Nat} {a n : Int} (hn : n ≠ 1 ∧ n ≠ 2 ∧ n ≠ 4 ∧ n ≠ 8) :
    Calls Try.prog 28 #[.pointer (some ⟨m, 0, none⟩), .int .u64 a, .int .i64 n] w fun e w' => e = .returned (FaultV 31 a) ∧ Below w.heap.size w w' := by
  obtain ⟨n1, n2, n3, n4⟩ := hn
  go_enter Try.func28, Try.ntmps28
  go_wp2_with fail
  obtain ⟨d0, d1, _⟩ := (BoxF.new w 31 a).cells
  refine bodyPost_ret (v := .agg #[.int .i64 31, .int .u64 a]) (by simp [results, Try.results28, go_sem, d0, d1]) rfl ?_
  exact ⟨rfl, (Below.refl _ _).alloc (Nat.le_refl _) _⟩
/-- what Peek answers -/
def PeekPost (w : World) (m B : Nat) (V : Value × Value × Value) (T : Nat → Option Nat) (M : Nat → Nat) (rs ds : List Sp) (L S X a n : Nat) (e : Ending) (w' : World) : Prop :=
  ∃ x b, OffR (rs ++ ds) a n x b ∧ e = .returned (.tuple #[.int .u64 (if b then 0 else (Pl.num 8 (rdTo M a 8 n) : Nat) : Int), FaultV (if b then 30 else 0) x]) ∧ Mac w' m B V T M rs ds L S (up b X) ∧ Keeps (fun j => j = m) w w'
set_option maxRecDepth 100000 in
set_option maxHeartbeats 4000000 in
theorem peek_any {w : World} {m B : Nat} {V : Value × Value × Value} {T : Nat → Option Nat} {M : Nat → Nat} {rs ds : List Sp} {L S X a n : Nat} (h : Mac w m B V T M rs ds L S X) (ha : a ≤ 18446744073709551615) (hn : Wide n) (hX : X ≤ 4611686018427387904) :
    Calls Try.prog 105 #[.pointer (some ⟨m, 0, none⟩), .int .u64 (a : Int), .int .i64 (n : Int)] w (PeekPost w m B V T M rs ds L S X a n) := by
  have HA : Hid (∀ W, Below w.heap.size w W → Calls Try.prog 28 #[.pointer (some ⟨m, 0, none⟩), .int .u64 (a : Int), .int .i64 (n : Int)] W (AskPost W m B V T M rs ds L S X a n)) := fun W hW => askWidth_any (h.below hW) ha hn hX
  have HM : Hid (Mac w m B V T M rs ds L S X) := h
  have hml := h.lt
  clear h
  go_enter Try.func105, Try.ntmps105
  go_wp2_with fail
  refine (HA.out _ ((Below.refl _ _).alloc (Nat.le_refl _) _)).mono ?_
  rintro e w1 ⟨x, b, ho, rfl, hm1, hk1⟩
  have HOff : Hid (OffR (rs ++ ds) a n x b) := ho
  have HX1 : Hid (BoxF w1 w.heap.size 0 0) := (BoxF.new w 0 0).keeps hk1 (by omega)
  have HM1 : Hid (Mac w1 m B V T M rs ds L S (up b X)) := hm1
  have HK1 : Hid (Keeps (fun j => j = m) w w1) := (Keeps.alloc (S := fun j => j = m) w _).trans hk1 (fun _ _ e => e)
  obtain ⟨x0, x1, f0, f1⟩ := HX1.out.cells
  clear ho hm1 hk1 HA
  unfold FaultV
  cases b with
  | true =>
    simp only [if_true]
    go_wp2_with fail
    obtain ⟨W2, hW2⟩ : ∃ W2, w1.alloc (Obj.cells #[.int .i64 30, .int .u64 x] 27) = W2 := ⟨_, rfl⟩
    have HF2 : Hid (BoxF W2 w1.heap.size 30 x) := hW2 ▸ BoxF.new w1 30 x
    have HX2 : Hid (BoxF W2 w.heap.size 0 0) := hW2 ▸ HX1.out.below ((Below.refl _ _).alloc (Nat.le_refl _) _)
    have HB2 : Hid (Below w1.heap.size w1 W2) := hW2 ▸ (Below.refl _ _).alloc (Nat.le_refl _) _
    rw [hW2]
    have hne : w.heap.size ≠ w1.heap.size := Nat.ne_of_lt HX1.out.lt
    obtain ⟨x0, x1, f0, f1⟩ := HX2.out.cells
    obtain ⟨y0, y1, _, _⟩ := HF2.out.cells
    clear hW2
    go_region_held3 (fun w' => w'.cell? ⟨w1.heap.size, 0, none⟩ = some (.int .i64 30) ∧ w'.cell? ⟨w1.heap.size, 1, none⟩ = some (.int .u64 x)) (go_keep) (fail)
    go_wp2_with fail
    obtain ⟨d0, d1, _⟩ := BoxF.cells (w := ((W2.setCell ⟨w.heap.size, 0, none⟩ (.int .i64 30)).setCell ⟨w.heap.size, 1, none⟩ (.int .u64 x)).drew) (HX2.out.set 30 x)
    refine bodyPost_ret (v := .tuple #[.int .u64 0, .agg #[.int .i64 30, .int .u64 x]]) (by simp [results, Try.results105, go_sem, d0, d1]) rfl ?_
    have hk2 : Keeps (fun j => j = w.heap.size) W2 (((W2.setCell ⟨w.heap.size, 0, none⟩ (.int .i64 30)).setCell ⟨w.heap.size, 1, none⟩ (.int .u64 x)).drew) := (Keeps.two W2 w.heap.size (.int .i64 30) (.int .u64 x)).drew
    exact ⟨x, true, HOff.out, rfl, (HM1.out.below HB2.out).keeps hk2 (fun j hj e => by have := HM.out.mine_lt hj; omega), (HK1.out.trans (Keeps.of_below (S := fun _ => False) HB2.out) (fun _ _ h => h.elim)).trans hk2 (fun i hi e => absurd e (by omega))⟩
  | false =>
    simp only [Bool.false_eq_true, if_false]
    have hn8 : n ≤ 8 := by rcases hn with h | h | h | h <;> omega
    have hs8 := fun W g => slice8_h W g n hn8
    have hs9 := slice8_all
    have HRange : Hid (a + n ≤ 4294967296) := off_low HOff.out HM.out (by rcases hn with h | h | h | h <;> omega)
    go_wp2_with fail
    obtain ⟨W2, hW2⟩ : ∃ W2, (w1.alloc (Obj.cells #[.int .i64 0, .int .u64 x] 27)).alloc (Obj.cells #[.int .u8 0, .int .u8 0, .int .u8 0, .int .u8 0, .int .u8 0, .int .u8 0, .int .u8 0, .int .u8 0] 93) = W2 := ⟨_, rfl⟩
    have HB2 : Hid (Below w1.heap.size w1 W2) := hW2 ▸ ((Below.refl _ _).alloc (Nat.le_refl _) _).alloc (by simp) _
    have HX2 : Hid (BoxF W2 w.heap.size 0 0) := HX1.out.below HB2.out
    have HR2 : Hid (RowT W2 93 (w1.heap.size + 1) (List.replicate 8 0)) := by rw [← hW2]; exact heap_alloc_new' (by simp) _
    have HM2 : Hid (Mac W2 m B V T M rs ds L S X) := HM1.out.below HB2.out
    rw [hW2]
    have hne : w.heap.size ≠ w1.heap.size := Nat.ne_of_lt HX1.out.lt
    have hlt1 := HX1.out.lt
    obtain ⟨x0, x1, f0, f1⟩ := HX2.out.cells
    obtain ⟨_, _, _, c6, _⟩ := HM2.out.cells
    have HRd : Hid (Calls Try.prog 106 #[.map (some B), .int .u64 (a : Int), .slice (some ⟨w1.heap.size + 1, 0, none⟩) n 8] W2.drew fun e w' => e = .returned (.tuple #[]) ∧ RowT w' 93 (w1.heap.size + 1) (rdTo M a 8 n) ∧ Keeps (fun j => j = w1.heap.size + 1) W2.drew w') :=
      read_any (w := W2.drew) HM2.out.held HRange.out HR2.out (fun hf => by have := HM1.out.held.foot_lt hf; omega) hn8 hn8 (by decide)
    clear hW2
    go_region_held3 (fun w' => w'.cell? ⟨m, 6, none⟩ = some (.map (some B))) (go_keep) (first | (go_at_call 106; refine HRd.out.mono ?_; rintro e w3 ⟨rfl, hr3, hk3⟩; have HR3 : Hid (RowT w3 93 (w1.heap.size + 1) (rdTo M a 8 n)) := hr3; have HK3 : Hid (Keeps (fun j => j = w1.heap.size + 1) W2 w3) := keeps_drewn hk3; have c63 : w3.cell? ⟨m, 6, none⟩ = some (.map (some B)) := (World.cell?_of_block (w := W2) (a := ⟨m, 6, none⟩) (HK3.out.block m HM2.out.lt (by show ¬ m = _; have := HM1.out.lt; omega))).trans c6; clear hr3 hk3))
    have HX3 : Hid (BoxF w3 w.heap.size 0 0) := HX2.out.keeps HK3.out (by omega)
    obtain ⟨x0, x1, f0, f1⟩ := HX3.out.cells
    have HSl : Hid (Sl w3 (.slice (some ⟨w1.heap.size + 1, 0, none⟩) 8 8) (rdTo M a 8 n)) := rowT_sl HR3.out (rdTo_length _ _ _ _ hn8) (rdTo_small HM2.out.held.2.2.2.2.1 _ _ _)
    have HGt : Hid (Calls Try.prog 31 #[.slice (some ⟨w1.heap.size + 1, 0, none⟩) 8 8] w3 fun e w' => e = .returned (.tuple #[.int .u64 (Pl.num 8 (rdTo M a 8 n) : Nat), .bool true]) ∧ w' = w3) := get_u64_yes HSl.out (Nat.le_of_eq (rdTo_length _ _ _ _ hn8).symm)
    clear HSl c63 c6
    go_wp2_with (first | (go_at_call 31; refine HGt.out.mono ?_; rintro e w' ⟨rfl, hw⟩; have hw := hw.symm; subst hw))
    obtain ⟨d0, d1, _⟩ := (HX3.out.set 0 0).cells
    refine bodyPost_ret (v := .tuple #[.int .u64 ((Pl.num 8 (rdTo M a 8 n) : Nat) : Int), .agg #[.int .i64 0, .int .u64 0]]) (by simp [results, Try.results105, go_sem, d0, d1]) rfl ?_
    have hk2 := Keeps.two w3 w.heap.size (.int .i64 0) (.int .u64 0)
    have hx : x = 0 := (HOff.out.2 rfl).1
    refine ⟨x, false, HOff.out, by rw [hx]; rfl, (HM2.out.keeps HK3.out (fun j hj e => ?_)).keeps hk2 (fun j hj e => ?_), ((HK1.out.trans (Keeps.of_below (S := fun _ => False) HB2.out) (fun _ _ h => h.elim)).trans HK3.out (fun i hi e => absurd e ?_)).trans hk2 (fun i hi e => absurd e (by omega))⟩
    · have := HM.out.mine_lt hj; omega
    · have := HM.out.mine_lt hj; omega
    · omega
/-- what Load answers -/
def LoadPost (w : World) (m B : Nat) (V : Value × Value × Value) (T : Nat → Option Nat) (M : Nat → Nat) (rs ds : List Sp) (L S X a n : Nat) (e : Ending) (w' : World) : Prop :=
  ∃ x b, OffR (rs ++ ds) a n x b ∧ e = .returned (.tuple #[.int .u64 (if b then 0 else (Pl.num 8 (rdTo M a 8 n) : Nat) : Int), FaultV (if b then 30 else 0) x]) ∧ Mac w' m B V T M rs ds (up (!b) L) S (up b X) ∧ Keeps (fun j => j = m) w w'
set_option maxRecDepth 100000 in
set_option maxHeartbeats 4000000 in
theorem load_any {w : World} {m B : Nat} {V : Value × Value × Value} {T : Nat → Option Nat} {M : Nat → Nat} {rs ds : List Sp} {L S X a n : Nat} (h : Mac w m B V T M rs ds L S X) (ha : a ≤ 18446744073709551615) (hn : Wide n) (hX : X ≤ 4611686018427387904) (hL : L ≤ 4611686018427387904) :
    Calls Try.prog 104 #[.pointer (some ⟨m, 0, none⟩), .int .u64 (a : Int), .int .i64 (n : Int)] w (LoadPost w m B V T M rs ds L S X a n) := by
  have HA : Hid (∀ W, Below w.heap.size w W → Calls Try.prog 105 #[.pointer (some ⟨m, 0, none⟩), .int .u64 (a : Int), .int .i64 (n : Int)] W (PeekPost W m B V T M rs ds L S X a n)) := fun W hW => peek_any (h.below hW) ha hn hX
  have HM : Hid (Mac w m B V T M rs ds L S X) := h
  have hml := h.lt
  clear h
  go_enter Try.func104, Try.ntmps104
  go_wp2_with fail
  refine (HA.out _ ((Below.refl _ _).alloc (Nat.le_refl _) _)).mono ?_
  rintro e w1 ⟨x, b, ho, rfl, hm1, hk1⟩
  have HOff : Hid (OffR (rs ++ ds) a n x b) := ho
  have HX1 : Hid (BoxF w1 w.heap.size 0 0) := (BoxF.new w 0 0).keeps hk1 (by omega)
  have HM1 : Hid (Mac w1 m B V T M rs ds L S (up b X)) := hm1
  have HK1 : Hid (Keeps (fun j => j = m) w w1) := (Keeps.alloc (S := fun j => j = m) w _).trans hk1 (fun _ _ e => e)
  obtain ⟨x0, x1, f0, f1⟩ := HX1.out.cells
  have c0 := fun X => U64.cell_alloc' X HM1.out.cells.1
  have g0 := fun X : Obj => (HM1.out.below ((Below.refl _ _).alloc (Nat.le_refl _) X)).cells.2.2.2.2 0
  have hml1 := HM1.out.lt
  have hne : w.heap.size ≠ w1.heap.size := Nat.ne_of_lt HX1.out.lt
  have hlt1 := HX1.out.lt
  clear ho hm1 hk1 HA
  unfold FaultV
  cases b with
  | true =>
    simp only [if_true]
    go_wp2_with fail
    obtain ⟨W2, hW2⟩ : ∃ W2, w1.alloc (Obj.cells #[.int .i64 30, .int .u64 x] 27) = W2 := ⟨_, rfl⟩
    have HF2 : Hid (BoxF W2 w1.heap.size 30 x) := hW2 ▸ BoxF.new w1 30 x
    have HX2 : Hid (BoxF W2 w.heap.size 0 0) := hW2 ▸ HX1.out.below ((Below.refl _ _).alloc (Nat.le_refl _) _)
    have HB2 : Hid (Below w1.heap.size w1 W2) := hW2 ▸ (Below.refl _ _).alloc (Nat.le_refl _) _
    rw [hW2]
    obtain ⟨x0, x1, f0, f1⟩ := HX2.out.cells
    obtain ⟨y0, y1, _, _⟩ := HF2.out.cells
    clear hW2 c0 g0
    go_region_held3 (fun w' => w'.cell? ⟨w1.heap.size, 0, none⟩ = some (.int .i64 30) ∧ w'.cell? ⟨w1.heap.size, 1, none⟩ = some (.int .u64 x)) (go_keep) (fail)
    go_wp2_with fail
    obtain ⟨d0, d1, _⟩ := BoxF.cells (w := ((W2.setCell ⟨w.heap.size, 0, none⟩ (.int .i64 30)).setCell ⟨w.heap.size, 1, none⟩ (.int .u64 x)).drew) (HX2.out.set 30 x)
    refine bodyPost_ret (v := .tuple #[.int .u64 0, .agg #[.int .i64 30, .int .u64 x]]) (by simp [results, Try.results104, go_sem, d0, d1]) rfl ?_
    have hk2 : Keeps (fun j => j = w.heap.size) W2 (((W2.setCell ⟨w.heap.size, 0, none⟩ (.int .i64 30)).setCell ⟨w.heap.size, 1, none⟩ (.int .u64 x)).drew) := (Keeps.two W2 w.heap.size (.int .i64 30) (.int .u64 x)).drew
    exact ⟨x, true, HOff.out, rfl, (HM1.out.below HB2.out).keeps hk2 (fun j hj e => by have := HM.out.mine_lt hj; omega), (HK1.out.trans (Keeps.of_below (S := fun _ => False) HB2.out) (fun _ _ h => h.elim)).trans hk2 (fun i hi e => absurd e (by omega))⟩
  | false =>
    simp only [Bool.false_eq_true, if_false]
    obtain ⟨num, hnum⟩ : ∃ num, num = Pl.num 8 (rdTo M a 8 n) := ⟨_, rfl⟩
    rw [← hnum]
    have HNum : Hid (num = Pl.num 8 (rdTo M a 8 n)) := hnum
    clear hnum
    go_wp2_with fail
    obtain ⟨W2, hW2⟩ : ∃ W2, (w1.setCell ⟨m, 0, none⟩ (.int .i64 ((L : Int) + 1))).alloc (Obj.cells #[.int .i64 0, .int .u64 x] 27) = W2 := ⟨_, rfl⟩
    have HF2 : Hid (BoxF W2 w1.heap.size 0 x) := by rw [← hW2]; exact heap_alloc_new' (by simp [World.setCell]) _
    have HX2 : Hid (BoxF W2 w.heap.size 0 0) := by rw [← hW2]; exact (HX1.out.keeps (Keeps.setCell _ _ _ _) (by omega)).below ((Below.refl _ _).alloc (Nat.le_refl _) _)
    have HK2 : Hid (Keeps (fun j => j = m) w1 W2) := by rw [← hW2]; exact (Keeps.setCell _ _ _ _).trans (Keeps.alloc (S := fun j => j = m) _ _) (fun _ _ e => e)
    have HM2 : Hid (Mac W2 m B V T M rs ds (L + 1) S X) := by
      refine (show Mac w1 m B V T M rs ds L S X from HM1.out).recount HK2.out (fun h0 => ?_)
      rw [← hW2, Below.heap_alloc _ _ m (by simp [World.setCell]; exact hml1)]
      simp only [World.setCell, Array.getElem?_modify]
      rw [if_pos trivial, h0]
      simp
    rw [hW2]
    obtain ⟨x0, x1, f0, f1⟩ := HX2.out.cells
    obtain ⟨y0, y1, _, _⟩ := HF2.out.cells
    clear hW2 c0 g0
    go_region_held3 (fun w' => w'.cell? ⟨w1.heap.size, 0, none⟩ = some (.int .i64 0) ∧ w'.cell? ⟨w1.heap.size, 1, none⟩ = some (.int .u64 x)) (go_keep) (fail)
    go_wp2_with fail
    obtain ⟨d0, d1, _⟩ := BoxF.cells (w := ((W2.setCell ⟨w.heap.size, 0, none⟩ (.int .i64 0)).setCell ⟨w.heap.size, 1, none⟩ (.int .u64 x)).drew) (HX2.out.set 0 x)
    refine bodyPost_ret (v := .tuple #[.int .u64 (num : Int), .agg #[.int .i64 0, .int .u64 x]]) (by simp [results, Try.results104, go_sem, d0, d1]) rfl ?_
    have hk2 : Keeps (fun j => j = w.heap.size) W2 (((W2.setCell ⟨w.heap.size, 0, none⟩ (.int .i64 0)).setCell ⟨w.heap.size, 1, none⟩ (.int .u64 x)).drew) := (Keeps.two W2 w.heap.size (.int .i64 0) (.int .u64 x)).drew
    exact ⟨x, false, HOff.out, by rw [HNum.out]; rfl, HM2.out.keeps hk2 (fun j hj e => by have := HM.out.mine_lt hj; omega), (HK1.out.trans HK2.out (fun _ _ e => e)).trans hk2 (fun i hi e => absurd e (by omega))⟩
end Go.Proofs.Ytehedllcdpjebaa
