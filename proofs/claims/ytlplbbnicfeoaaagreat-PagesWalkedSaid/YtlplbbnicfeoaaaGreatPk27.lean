import Derived.Test.YtlplbbnicfeoaaaGreatPk26
import Derived.Test.YtlplbbnicfeoaaaGreatPk01
/- askWidth; Peek, Load, Store. Own work. -/
namespace Go.Proofs.YtlplbbnicfeoaaaGreat
open Go.RowKit Go.Maps Go.Proofs.YtlplbbnicfeoaaaGreat.Sp
theorem Keeps.two (w : World) (b : Nat) (u v : Value) : Keeps (fun j => j = b) w ((w.setCell ⟨b, 0, none⟩ u).setCell ⟨b, 1, none⟩ v) :=
  (Keeps.setCell w b 0 u).trans (Keeps.setCell _ b 1 v) (fun _ _ e => e)
theorem slice8_h (w : World) (g n : Nat) (hn : n ≤ 8) : (Instr.sliceAt 201 (.pointer (some ⟨g, 0, none⟩)) none (some (.int .i64 (n : Int))) none).run Tryz.prog w = .ok (.slice (some ⟨g, 0, none⟩) n 8) w := by
  obtain ⟨i, hi, _, hz1, _⟩ := info_parts info_byte
  have hs : (sizeOf 5).run Tryz.prog w = .ok 1 w := by simp only [sizeOf, typeInfo, Sem.run_bind, run_program, Result.andThen_ok, hi, Sem.run_pure, hz1]
  have hu : Tryz.prog.underlying 201 = some (.array 8 5) := Tryz.underlying201
  have hb : ∀ code, (Instr.sliceBound (.int .i64 (n : Int)) 8 code).run Tryz.prog w = .ok n w := fun code => by
    have h1 : (0 : Int) ≤ (n : Int) ∧ (n : Int) ≤ ((8 : Nat) : Int) := by omega
    simp only [Instr.sliceBound, asIntOf, Sem.run_bind, Sem.run_pure, Result.andThen_ok, if_pos h1, Int.toNat_natCast]
  have e : (⟨g, 0, none⟩ : Addr).add (0 * 1) = ⟨g, 0, none⟩ := by rw [Addr.add_mid]
  simp only [Instr.sliceAt, Instr.sureAddr, run_underlying hu, Sem.run_bind, Result.andThen_ok, Sem.run_pure, Instr.sliceBounds, hb, hs]
  rw [if_neg (by omega), e]
  rfl
theorem slice8_all (w : World) (g : Nat) : (Instr.sliceAt 201 (.pointer (some ⟨g, 0, none⟩)) none none none).run Tryz.prog w = .ok (.slice (some ⟨g, 0, none⟩) 8 8) w := by
  obtain ⟨i, hi, _, hz1, _⟩ := info_parts info_byte
  have hs : (sizeOf 5).run Tryz.prog w = .ok 1 w := by simp only [sizeOf, typeInfo, Sem.run_bind, run_program, Result.andThen_ok, hi, Sem.run_pure, hz1]
  have hu : Tryz.prog.underlying 201 = some (.array 8 5) := Tryz.underlying201
  have e : (⟨g, 0, none⟩ : Addr).add (0 * 1) = ⟨g, 0, none⟩ := by rw [Addr.add_mid]
  simp only [Instr.sliceAt, Instr.sureAddr, run_underlying hu, Sem.run_bind, Result.andThen_ok, Sem.run_pure, Instr.sliceBounds, hs]
  rw [if_neg (by omega), e]
theorem heap_alloc_new' {w : World} {n : Nat} (h : w.heap.size = n) (o : Obj) : (w.alloc o).heap[n]? = some o := by
  subst h; exact heap_alloc_new w o
theorem keeps_drewn {Z : Nat → Prop} {w w' : World} (h : Keeps Z w.drew w') : Keeps Z w w' := ⟨h.os, h.tape, h.output, h.size, h.block⟩
theorem rdTo_small {M : Nat → Nat} (hM : ∀ p, M p < 256) (a C i : Nat) : ∀ z ∈ rdTo M a C i, z < 256 := by
  intro z hz
  rcases List.mem_append.1 hz with h | h
  · obtain ⟨j, _, rfl⟩ := List.mem_map.1 h
    exact hM _
  · rw [List.eq_of_mem_replicate h]; decide
theorem rowT_sl {w : World} {t : TypeId} {g : Nat} {L : List Nat} (h : RowT w t g L) {n : Nat} (hn : L.length = n) (hz : ∀ z ∈ L, z < 256) (hm : n ≤ maxLen := by decide) : Sl w (.slice (some ⟨g, 0, none⟩) n n) L := by
  subst hn
  refine ⟨_, L.length, rfl, Nat.le_refl _, hm, hz, by simp, fun i hi => ⟨g, 0, rfl, ?_⟩⟩
  rw [Nat.zero_add, cell_of_row w g i _ _ _ h, List.getElem?_toArray, bvs_get _ _ hi]
theorem off_low {w : World} {m B : Nat} {V : Value × Value × Value} {T : Nat → Option Nat} {M : Nat → Nat} {rs ds : List Sp} {L S X a n : Nat} {x : Int} (h : OffR (rs ++ ds) a n x false) (hM : Mac w m B V T M rs ds L S X) (hn : 0 < n) : a + n ≤ 4294967296 := by
  obtain ⟨G, _, _, _, _, _, _, h6, _⟩ := hM
  obtain ⟨r, hr, h1, h2⟩ := (h.2 rfl).2 (n - 1) (by omega)
  have := h6 r hr
  omega
def Wide (n : Nat) : Prop := n = 1 ∨ n = 2 ∨ n = 4 ∨ n = 8
set_option maxRecDepth 100000 in
set_option maxHeartbeats 4000000 in
theorem askWidth_any {w : World} {m B : Nat} {V : Value × Value × Value} {T : Nat → Option Nat} {M : Nat → Nat} {rs ds : List Sp} {L S X a n : Nat} (h : Mac w m B V T M rs ds L S X) (ha : a ≤ 18446744073709551615) (hn : Wide n) (hX : X ≤ 4611686018427387904) :
    Calls Tryz.prog 43 #[.pointer (some ⟨m, 0, none⟩), .int .u64 (a : Int), .int .i64 (n : Int)] w (AskPost w m B V T M rs ds L S X a n) := by
  have HA : Hid (∀ W, Below w.heap.size w W → Calls Tryz.prog 72 #[.pointer (some ⟨m, 0, none⟩), .int .u64 (a : Int), .int .i64 (n : Int)] W (AskPost W m B V T M rs ds L S X a n)) := fun W hW => ask_any (h.below hW) ha (by rcases hn with h | h | h | h <;> omega) hX
  have HM : Hid (Mac w m B V T M rs ds L S X) := h
  have hml := h.lt
  clear h
  rcases hn with rfl | rfl | rfl | rfl
  all_goals
    go_enter Tryz.func43, Tryz.ntmps43
    go_wp2_with fail
    refine (HA.out _ ((Below.refl _ _).alloc (Nat.le_refl _) _)).mono ?_
    rintro e w1 ⟨x, b, ho, rfl, hm1, hk1⟩
    have HOff : Hid (OffR (rs ++ ds) a _ x b) := ho
    have HX1 : Hid (BoxF w1 w.heap.size 0 0) := (BoxF.new w 0 0).keeps hk1 (by omega)
    have HM1 : Hid (Mac w1 m B V T M rs ds L S (up b X)) := hm1
    have HK1 : Hid (Keeps (fun j => j = m) w w1) := (Keeps.alloc (S := fun j => j = m) w _).trans hk1 (fun _ _ e => e)
    obtain ⟨x0, x1, f0, f1⟩ := HX1.out.cells
    clear ho hm1 hk1 HA
    unfold FaultV
    obtain ⟨why, hwhy⟩ : ∃ why, why = (if b = true then (30 : Int) else 0) := ⟨_, rfl⟩
    have HWhy : Hid (why = (if b = true then (30 : Int) else 0)) := hwhy
    rw [← hwhy]
    clear hwhy
    go_wp2_with fail
    obtain ⟨d0, d1, _⟩ := (HX1.out.set why x).cells
    refine bodyPost_ret (v := .agg #[.int .i64 why, .int .u64 x]) (by simp [results, Tryz.results43, go_sem, d0, d1]) rfl ?_
    have hk2 := Keeps.two w1 w.heap.size (.int .i64 why) (.int .u64 x)
    exact ⟨x, b, HOff.out, by rw [HWhy.out]; rfl, HM1.out.keeps hk2 (fun j hj e => by have := HM.out.mine_lt hj; omega), HK1.out.trans hk2 (fun i hi e => absurd e (by omega))⟩
set_option maxRecDepth 100000 in
set_option maxHeartbeats 4000000 in
theorem askWidth_not {w : World} {m : Nat} {a n : Int} (hn : n ≠ 1 ∧ n ≠ 2 ∧ n ≠ 4 ∧ n ≠ 8) :
    Calls Tryz.prog 43 #[.pointer (some ⟨m, 0, none⟩), .int .u64 a, .int .i64 n] w fun e w' => e = .returned (FaultV 31 a) ∧ Below w.heap.size w w' := by
  obtain ⟨n1, n2, n3, n4⟩ := hn
  go_enter Tryz.func43, Tryz.ntmps43
  go_wp2_with fail
  obtain ⟨d0, d1, _⟩ := (BoxF.new w 31 a).cells
  refine bodyPost_ret (v := .agg #[.int .i64 31, .int .u64 a]) (by simp [results, Tryz.results43, go_sem, d0, d1]) rfl ?_
  exact ⟨rfl, (Below.refl _ _).alloc (Nat.le_refl _) _⟩
/-- what Peek answers -/
def PeekPost (w : World) (m B : Nat) (V : Value × Value × Value) (T : Nat → Option Nat) (M : Nat → Nat) (rs ds : List Sp) (L S X a n : Nat) (e : Ending) (w' : World) : Prop :=
  ∃ x b, OffR (rs ++ ds) a n x b ∧ e = .returned (.tuple #[.int .u64 (if b then 0 else (Pl.num 8 (rdTo M a 8 n) : Nat) : Int), FaultV (if b then 30 else 0) x]) ∧ Mac w' m B V T M rs ds L S (up b X) ∧ Keeps (fun j => j = m) w w'
set_option maxRecDepth 100000 in
set_option maxHeartbeats 4000000 in
theorem peek_any {w : World} {m B : Nat} {V : Value × Value × Value} {T : Nat → Option Nat} {M : Nat → Nat} {rs ds : List Sp} {L S X a n : Nat} (h : Mac w m B V T M rs ds L S X) (ha : a ≤ 18446744073709551615) (hn : Wide n) (hX : X ≤ 4611686018427387904) :
    Calls Tryz.prog 135 #[.pointer (some ⟨m, 0, none⟩), .int .u64 (a : Int), .int .i64 (n : Int)] w (PeekPost w m B V T M rs ds L S X a n) := by
  have HA : Hid (∀ W, Below w.heap.size w W → Calls Tryz.prog 43 #[.pointer (some ⟨m, 0, none⟩), .int .u64 (a : Int), .int .i64 (n : Int)] W (AskPost W m B V T M rs ds L S X a n)) := fun W hW => askWidth_any (h.below hW) ha hn hX
  have HM : Hid (Mac w m B V T M rs ds L S X) := h
  have hml := h.lt
  clear h
  go_enter Tryz.func135, Tryz.ntmps135
  go_wp2_with fail
  refine (HA.out _ ((Below.refl _ _).alloc (Nat.le_refl _) _)).mono ?_
  rintro e w1 ⟨x, b, ho, rfl, hm1, hk1⟩
  have HOff : Hid (OffR (rs ++ ds) a n x b) := ho
  have HX1 : Hid (BoxF w1 w.heap.size 0 0) := (BoxF.new w 0 0).keeps hk1 (by omega)
  have HM1 : Hid (Mac w1 m B V T M rs ds L S (up b X)) := hm1
  have HK1 : Hid (Keeps (fun j => j = m) w w1) := (Keeps.alloc (S := fun j => j = m) w _).trans hk1 (fun _ _ e => e)
  obtain ⟨x0, x1, f0, f1⟩ := HX1.out.cells
  clear ho hm1 hk1 HA
  unfold FaultV
  cases b with
  | true =>
    simp only [if_true]
    go_wp2_with fail
    obtain ⟨W2, hW2⟩ : ∃ W2, w1.alloc (Obj.cells #[.int .i64 30, .int .u64 x] 57) = W2 := ⟨_, rfl⟩
    have HF2 : Hid (BoxF W2 w1.heap.size 30 x) := hW2 ▸ BoxF.new w1 30 x
    have HX2 : Hid (BoxF W2 w.heap.size 0 0) := hW2 ▸ HX1.out.below ((Below.refl _ _).alloc (Nat.le_refl _) _)
    have HB2 : Hid (Below w1.heap.size w1 W2) := hW2 ▸ (Below.refl _ _).alloc (Nat.le_refl _) _
    rw [hW2]
    have hne : w.heap.size ≠ w1.heap.size := Nat.ne_of_lt HX1.out.lt
    obtain ⟨x0, x1, f0, f1⟩ := HX2.out.cells
    obtain ⟨y0, y1, _, _⟩ := HF2.out.cells
    clear hW2
    go_region_held3 (fun w' => w'.cell? ⟨w1.heap.size, 0, none⟩ = some (.int .i64 30) ∧ w'.cell? ⟨w1.heap.size, 1, none⟩ = some (.int .u64 x)) (go_keep) (fail)
    go_wp2_with fail
    obtain ⟨d0, d1, _⟩ := BoxF.cells (w := ((W2.setCell ⟨w.heap.size, 0, none⟩ (.int .i64 30)).setCell ⟨w.heap.size, 1, none⟩ (.int .u64 x)).drew) (HX2.out.set 30 x)
    refine bodyPost_ret (v := .tuple #[.int .u64 0, .agg #[.int .i64 30, .int .u64 x]]) (by simp [results, Tryz.results135, go_sem, d0, d1]) rfl ?_
    have hk2 : Keeps (fun j => j = w.heap.size) W2 (((W2.setCell ⟨w.heap.size, 0, none⟩ (.int .i64 30)).setCell ⟨w.heap.size, 1, none⟩ (.int .u64 x)).drew) := (Keeps.two W2 w.heap.size (.int .i64 30) (.int .u64 x)).drew
    exact ⟨x, true, HOff.out, rfl, (HM1.out.below HB2.out).keeps hk2 (fun j hj e => by have := HM.out.mine_lt hj; omega), (HK1.out.trans (Keeps.of_below (S := fun _ => False) HB2.out) (fun _ _ h => h.elim)).trans hk2 (fun i hi e => absurd e (by omega))⟩
  | false =>
    simp only [Bool.false_eq_true, if_false]
    have hn8 : n ≤ 8 := by rcases hn with h | h | h | h <;> omega
    have hs8 := fun W g => slice8_h W g n hn8
    have hs9 := slice8_all
    have HRange : Hid (a + n ≤ 4294967296) := off_low HOff.out HM.out (by rcases hn with h | h | h | h <;> omega)
    go_wp2_with fail
    obtain ⟨W2, hW2⟩ : ∃ W2, (w1.alloc (Obj.cells #[.int .i64 0, .int .u64 x] 57)).alloc (Obj.cells #[.int .u8 0, .int .u8 0, .int .u8 0, .int .u8 0, .int .u8 0, .int .u8 0, .int .u8 0, .int .u8 0] 201) = W2 := ⟨_, rfl⟩
    have HB2 : Hid (Below w1.heap.size w1 W2) := hW2 ▸ ((Below.refl _ _).alloc (Nat.le_refl _) _).alloc (by simp) _
    have HX2 : Hid (BoxF W2 w.heap.size 0 0) := HX1.out.below HB2.out
    have HR2 : Hid (RowT W2 201 (w1.heap.size + 1) (List.replicate 8 0)) := by rw [← hW2]; exact heap_alloc_new' (by simp) _
    have HM2 : Hid (Mac W2 m B V T M rs ds L S X) := HM1.out.below HB2.out
    rw [hW2]
    have hne : w.heap.size ≠ w1.heap.size := Nat.ne_of_lt HX1.out.lt
    have hlt1 := HX1.out.lt
    obtain ⟨x0, x1, f0, f1⟩ := HX2.out.cells
    obtain ⟨_, _, _, c6, _⟩ := HM2.out.cells
    have HRd : Hid (Calls Tryz.prog 136 #[.map (some B), .int .u64 (a : Int), .slice (some ⟨w1.heap.size + 1, 0, none⟩) n 8] W2.drew fun e w' => e = .returned (.tuple #[]) ∧ RowT w' 201 (w1.heap.size + 1) (rdTo M a 8 n) ∧ Keeps (fun j => j = w1.heap.size + 1) W2.drew w') :=
      read_any (w := W2.drew) HM2.out.held HRange.out HR2.out (fun hf => by have := HM1.out.held.foot_lt hf; omega) hn8 hn8 (by decide)
    clear hW2
    go_region_held3 (fun w' => w'.cell? ⟨m, 6, none⟩ = some (.map (some B))) (go_keep) (first | (go_at_call 136; refine HRd.out.mono ?_; rintro e w3 ⟨rfl, hr3, hk3⟩; have HR3 : Hid (RowT w3 201 (w1.heap.size + 1) (rdTo M a 8 n)) := hr3; have HK3 : Hid (Keeps (fun j => j = w1.heap.size + 1) W2 w3) := keeps_drewn hk3; have c63 : w3.cell? ⟨m, 6, none⟩ = some (.map (some B)) := (World.cell?_of_block (w := W2) (a := ⟨m, 6, none⟩) (HK3.out.block m HM2.out.lt (by show ¬ m = _; have := HM1.out.lt; omega))).trans c6; clear hr3 hk3))
    have HX3 : Hid (BoxF w3 w.heap.size 0 0) := HX2.out.keeps HK3.out (by omega)
    obtain ⟨x0, x1, f0, f1⟩ := HX3.out.cells
    have HSl : Hid (Sl w3 (.slice (some ⟨w1.heap.size + 1, 0, none⟩) 8 8) (rdTo M a 8 n)) := rowT_sl HR3.out (rdTo_length _ _ _ _ hn8) (rdTo_small HM2.out.held.2.2.2.2.1 _ _ _)
    have HGt : Hid (Calls Tryz.prog 137 #[.slice (some ⟨w1.heap.size + 1, 0, none⟩) 8 8] w3 fun e w' => e = .returned (.tuple #[.int .u64 (Pl.num 8 (rdTo M a 8 n) : Nat), .bool true]) ∧ w' = w3) := get_u64_yes HSl.out (Nat.le_of_eq (rdTo_length _ _ _ _ hn8).symm)
    clear HSl c63 c6
    go_wp2_with (first | (go_at_call 137; refine HGt.out.mono ?_; rintro e w' ⟨rfl, hw⟩; have hw := hw.symm; subst hw))
    obtain ⟨d0, d1, _⟩ := (HX3.out.set 0 0).cells
    refine bodyPost_ret (v := .tuple #[.int .u64 ((Pl.num 8 (rdTo M a 8 n) : Nat) : Int), .agg #[.int .i64 0, .int .u64 0]]) (by simp [results, Tryz.results135, go_sem, d0, d1]) rfl ?_
    have hk2 := Keeps.two w3 w.heap.size (.int .i64 0) (.int .u64 0)
    have hx : x = 0 := (HOff.out.2 rfl).1
    refine ⟨x, false, HOff.out, by rw [hx]; rfl, (HM2.out.keeps HK3.out (fun j hj e => ?_)).keeps hk2 (fun j hj e => ?_), ((HK1.out.trans (Keeps.of_below (S := fun _ => False) HB2.out) (fun _ _ h => h.elim)).trans HK3.out (fun i hi e => absurd e ?_)).trans hk2 (fun i hi e => absurd e (by omega))⟩
    · have := HM.out.mine_lt hj; omega
    · have := HM.out.mine_lt hj; omega
    · omega
/-- what Load answers -/
def LoadPost (w : World) (m B : Nat) (V : Value × Value × Value) (T : Nat → Option Nat) (M : Nat → Nat) (rs ds : List Sp) (L S X a n : Nat) (e : Ending) (w' : World) : Prop :=
  ∃ x b, OffR (rs ++ ds) a n x b ∧ e = .returned (.tuple #[.int .u64 (if b then 0 else (Pl.num 8 (rdTo M a 8 n) : Nat) : Int), FaultV (if b then 30 else 0) x]) ∧ Mac w' m B V T M rs ds (up (!b) L) S (up b X) ∧ Keeps (fun j => j = m) w w'
end Go.Proofs.YtlplbbnicfeoaaaGreat
/- look: an entry of a table in a machine's memory. Own work. -/
namespace Go.Proofs.YtlplbbnicfeoaaaGreat
open Go.RowKit Go.Maps Go.Proofs.YtlplbbnicfeoaaaGreat.Sp Wk
theorem BoxE.keeps {Z : Nat → Prop} {w w' : World} {g : Nat} {x : Ent} (h : BoxE w g x) (hk : Keeps Z w w') (hn : ¬ Z g) : BoxE w' g x := (hk.block g h.lt hn).trans h
theorem BoxE.frozen {w : World} {g : Nat} {x : Ent} (h : BoxE w g x) (i : Nat) : w.frozen? ⟨g, i, none⟩ = false := by
  have h' : w.heap[g]? = _ := h
  simp [World.frozen?, h']
/-- an entry, written over another -/
def putE (w : World) (g : Nat) (x : Ent) : World := ((((w.setCell ⟨g, 0, none⟩ (.int .u64 (x.1 : Int))).setCell ⟨g, 1, none⟩ (.bool x.2.1)).setCell ⟨g, 2, none⟩ (.bool x.2.2.1)).setCell ⟨g, 3, none⟩ (.bool x.2.2.2.1)).setCell ⟨g, 4, none⟩ (.bool x.2.2.2.2)
theorem putE_keeps (w : World) (g : Nat) (x : Ent) : Keeps (fun j => j = g) w (putE w g x) :=
  ((((Keeps.setCell w g 0 _).trans (Keeps.setCell _ g 1 _) (fun _ _ e => e)).trans (Keeps.setCell _ g 2 _) (fun _ _ e => e)).trans (Keeps.setCell _ g 3 _) (fun _ _ e => e)).trans (Keeps.setCell _ g 4 _) (fun _ _ e => e)
theorem BoxE.put {w : World} {g : Nat} {y : Ent} (h : BoxE w g y) (x : Ent) : BoxE (putE w g x) g x := by
  have h' : w.heap[g]? = _ := h
  simp [BoxE, putE, World.setCell, Array.getElem?_modify, h']
/-- a machine as a Memory -/
def MemV (m : Nat) : Value := .iface 31 (.pointer (some ⟨m, 0, none⟩))
/-- eight bytes of a machine, or that they are not on the bus -/
def LookR (rs : List Sp) (M : Nat → Nat) (a : Nat) (l : Int) (r : Ent × Int) (b : Bool) : Prop := ∃ x, OffR rs a 8 x b ∧ r = if b then (no, 42) else entB (Pl.num 8 (rdTo M a 8 8)) l
set_option maxRecDepth 100000 in
set_option maxHeartbeats 4000000 in
theorem look_any {w : World} {m B : Nat} {V : Value × Value × Value} {T : Nat → Option Nat} {M : Nat → Nat} {rs ds : List Sp} {L S X t k : Nat} {l : Int} (h : Mac w m B V T M rs ds L S X) (ht : t + 8 * k ≤ 18446744073709551615) (hX : X ≤ 4611686018427387904) :
    Calls Tryz.prog 79 #[MemV m, .int .u64 (t : Int), .int .u64 (k : Int), .int .i64 l] w fun e w' => ∃ r b, e = .returned (.tuple #[EntV r.1, .int .i64 r.2]) ∧ LookR (rs ++ ds) M (t + 8 * k) l r b ∧ Mac w' m B V T M rs ds L S (up b X) ∧ Keeps (fun j => j = m) w w' := by
  have HM : Hid (Mac w m B V T M rs ds L S X) := h
  clear h
  have hme : ∀ (w : World) (p : Option Addr), (method 305 31 (.pointer p) "Peek").run Tryz.prog w = .ok (135, .pointer p) w := fun _ _ => by kernel_rfl
  obtain ⟨a, ha⟩ : ∃ a, a = t + 8 * k := ⟨_, rfl⟩
  have hai : (t : Int) + 8 * (k : Int) = (a : Int) := by omega
  have HPk : Hid (∀ W, Below w.heap.size w W → Calls Tryz.prog 135 #[.pointer (some ⟨m, 0, none⟩), .int .u64 (a : Int), .int .i64 8] W (PeekPost W m B V T M rs ds L S X a 8)) := fun W hW => peek_any (HM.out.below hW) (by omega) (.inr (.inr (.inr rfl))) hX
  have HEn : Hid (∀ e : Nat, e < 18446744073709551616 → ∀ W, Calls Tryz.prog 82 #[.int .u64 (e : Int), .int .i64 l] W (EntPost W (entB e l))) := fun e he W => entry_any he l W
  rw [← ha]
  clear ha
  unfold MemV
  go_enter Tryz.func79, Tryz.ntmps79
  go_wp2_with fail
  refine (HPk.out _ ((Below.refl _ _).alloc (Nat.le_refl _) _)).mono ?_
  rintro e w1 ⟨x, b, ho, rfl, hm1, hk1⟩
  have hml := HM.out.lt
  have HOff : Hid (OffR (rs ++ ds) a 8 x b) := ho
  have HX1 : Hid (BoxE w1 w.heap.size no) := (BoxE.new w no).keeps hk1 (by omega)
  have HM1 : Hid (Mac w1 m B V T M rs ds L S (up b X)) := hm1
  have HK1 : Hid (Keeps (fun j => j = m) w w1) := (Keeps.alloc (S := fun j => j = m) w _).trans hk1 (fun _ _ e => e)
  have hne : w.heap.size ≠ w1.heap.size := Nat.ne_of_lt HX1.out.lt
  have hlt1 := HX1.out.lt
  clear ho hm1 hk1 HPk
  unfold FaultV
  cases b with
  | true =>
    simp only [if_true]
    obtain ⟨W2, hW2⟩ : ∃ W2, w1.alloc (Obj.cells #[.int .i64 30, .int .u64 x] 57) = W2 := ⟨_, rfl⟩
    have HF2 : Hid (BoxF W2 w1.heap.size 30 x) := hW2 ▸ BoxF.new w1 30 x
    have HX2 : Hid (BoxE W2 w.heap.size no) := hW2 ▸ HX1.out.below ((Below.refl _ _).alloc (Nat.le_refl _) _)
    have HB2 : Hid (Below w1.heap.size w1 W2) := hW2 ▸ (Below.refl _ _).alloc (Nat.le_refl _) _
    obtain ⟨y0, y1, _, _⟩ := HF2.out.cells
    obtain ⟨x0, x1, x2, x3, x4⟩ := HX2.out.cells
    have f0 := HX2.out.frozen 0
    have f1 := HX2.out.frozen 1
    have f2 := HX2.out.frozen 2
    have f3 := HX2.out.frozen 3
    have f4 := HX2.out.frozen 4
    go_wp2_with fail
    obtain ⟨d0, d1, d2, d3, d4⟩ := (HX2.out.put no).cells
    refine (fun (h : bodyPost _ _ _ _ _ (putE W2 w.heap.size no)) => h) ?_
    refine bodyPost_ret (v := .tuple #[EntV no, .int .i64 42]) (by simp [results, Tryz.results79, go_sem, EntV, d0, d1, d2, d3, d4]) rfl ?_
    exact ⟨(no, 42), true, rfl, ⟨x, HOff.out, rfl⟩, (HM1.out.below HB2.out).keeps (putE_keeps _ _ _) (fun j hj e => by have := HM.out.mine_lt hj; omega), (HK1.out.trans (Keeps.of_below (S := fun _ => False) HB2.out) (fun _ _ h => h.elim)).trans (putE_keeps _ _ _) (fun i hi e => absurd e (by omega))⟩
  | false =>
    simp only [Bool.false_eq_true, if_false]
    obtain ⟨num, hnum⟩ : ∃ num, num = Pl.num 8 (rdTo M a 8 8) := ⟨_, rfl⟩
    rw [← hnum]
    have HNum : Hid (num = Pl.num 8 (rdTo M a 8 8)) := hnum
    have hlt : num < 18446744073709551616 := by
      rw [hnum]
      exact Pl.acc_lt (rdTo_small HM.out.held.2.2.2.2.1 _ _ _) 0 8
    clear hnum
    obtain ⟨W2, hW2⟩ : ∃ W2, w1.alloc (Obj.cells #[.int .i64 0, .int .u64 x] 57) = W2 := ⟨_, rfl⟩
    have HF2 : Hid (BoxF W2 w1.heap.size 0 x) := hW2 ▸ BoxF.new w1 0 x
    have HX2 : Hid (BoxE W2 w.heap.size no) := hW2 ▸ HX1.out.below ((Below.refl _ _).alloc (Nat.le_refl _) _)
    have HB2 : Hid (Below w1.heap.size w1 W2) := hW2 ▸ (Below.refl _ _).alloc (Nat.le_refl _) _
    obtain ⟨y0, y1, _, _⟩ := HF2.out.cells
    go_wp2_with fail
    refine (HEn.out num hlt _).mono ?_
    rintro e w2 ⟨rfl, hb2⟩
    have HX3 : Hid (BoxE w2 w.heap.size no) := HX2.out.below hb2
    have HB3 : Hid (Below W2.heap.size W2 w2) := hb2
    clear hb2
    obtain ⟨x0, x1, x2, x3, x4⟩ := HX3.out.cells
    have f0 := HX3.out.frozen 0
    have f1 := HX3.out.frozen 1
    have f2 := HX3.out.frozen 2
    have f3 := HX3.out.frozen 3
    have f4 := HX3.out.frozen 4
    obtain ⟨⟨⟨q0, q1, q2, q3, q4⟩, q5⟩, hq⟩ : ∃ q, q = entB num l := ⟨_, rfl⟩
    rw [← hq]
    unfold EntV
    go_wp2_with fail
    obtain ⟨d0, d1, d2, d3, d4⟩ := (HX3.out.put (q0, q1, q2, q3, q4)).cells
    refine (fun (h : bodyPost _ _ _ _ _ (putE w2 w.heap.size (q0, q1, q2, q3, q4))) => h) ?_
    refine bodyPost_ret (v := .tuple #[EntV (q0, q1, q2, q3, q4), .int .i64 q5]) (by simp [results, Tryz.results79, go_sem, EntV, d0, d1, d2, d3, d4]) rfl ?_
    refine ⟨((q0, q1, q2, q3, q4), q5), false, rfl, ⟨x, HOff.out, by rw [hq, HNum.out]; rfl⟩, ((HM1.out.below HB2.out).below HB3.out).keeps (putE_keeps _ _ _) (fun j hj e => by have := HM.out.mine_lt hj; omega), ((HK1.out.trans (Keeps.of_below (S := fun _ => False) HB2.out) (fun _ _ h => h.elim)).trans (Keeps.of_below (S := fun _ => False) HB3.out) (fun _ _ h => h.elim)).trans (putE_keeps _ _ _) (fun i hi e => absurd e (by omega))⟩
end Go.Proofs.YtlplbbnicfeoaaaGreat
/- pages, reach and leaf: down from a root. Own work. -/
namespace Go.Proofs.YtlplbbnicfeoaaaGreat
open Go.RowKit Go.Maps Go.Proofs.YtlplbbnicfeoaaaGreat.Sp Wk
/-- how many pages an entry stands for -/
def pgs (l : Nat) : Nat := 512 ^ (2 - l)
set_option maxRecDepth 100000 in
theorem pages_any {l : Nat} (hl : l ≤ 2) (w : World) : Calls Tryz.prog 49 #[.int .i64 (l : Int)] w fun e w' => e = .returned (.int .i64 (pgs l : Int)) ∧ Below w.heap.size w w' := by
  rcases (show l = 0 ∨ l = 1 ∨ l = 2 by omega) with rfl | rfl | rfl
  all_goals
    go_enter Tryz.func49, Tryz.ntmps49
    go_wp2_with fail
    refine bodyPost_ret (v := .int .i64 (pgs _ : Int)) (by simp [results, Tryz.results49, go_sem, pgs]) rfl ⟨rfl, Below.refl _ _⟩
set_option maxRecDepth 100000 in
theorem reach_any {l : Nat} (hl : l ≤ 2) (w : World) : Calls Tryz.prog 80 #[.int .i64 (l : Int)] w fun e w' => e = .returned (.int .u64 (4096 * pgs l : Nat)) ∧ Below w.heap.size w w' := by
  have HP : Hid (∀ W, Calls Tryz.prog 49 #[.int .i64 (l : Int)] W fun e w' => e = .returned (.int .i64 (pgs l : Int)) ∧ Below W.heap.size W w') := fun W => pages_any hl W
  have hp : pgs l = 262144 ∨ pgs l = 512 ∨ pgs l = 1 := by
    rcases (show l = 0 ∨ l = 1 ∨ l = 2 by omega) with rfl | rfl | rfl <;> simp [pgs]
  obtain ⟨p, hpp⟩ : ∃ p, p = pgs l := ⟨_, rfl⟩
  rw [← hpp] at HP hp ⊢
  clear hpp
  go_enter Tryz.func80, Tryz.ntmps80
  go_wp2_with fail
  refine (HP.out _).mono ?_
  rintro e w1 ⟨rfl, hb1⟩
  have HB1 : Hid (Below w.heap.size w w1) := hb1
  clear hb1
  go_wp2_with fail
  refine bodyPost_ret (v := .int .u64 (4096 * (p : Int))) (by simp [results, Tryz.results80, go_sem]) rfl ⟨?_, HB1.out⟩
  rw [Int.natCast_mul]
  rfl
/-- down from a table at level l, at most n tables -/
def LeafR (rs : List Sp) (M : Nat → Nat) (v : Nat) : Nat → Nat → Nat → Ent × Int → Bool → Prop
  | 0, _, _, _, _ => False
  | n + 1, l, t, r, b => ∃ r0 b0, LookR rs M (t + 8 * (v / (4096 * pgs l) % 512)) (l : Int) r0 b0 ∧ (((r0.2 ≠ 0 ∨ r0.1.2.1 = false) ∧ r = r0 ∧ b = b0) ∨ (r0.2 = 0 ∧ r0.1.2.1 = true ∧ LeafR rs M v n (l + 1) r0.1.1 r b))
theorem look_table {rs : List Sp} {M : Nat → Nat} {a l q0 : Nat} {q2 q3 q4 : Bool} {b : Bool} (h : LookR rs M a (l : Int) ((q0, true, q2, q3, q4), 0) b) : b = false ∧ l < 2 ∧ q0 ≤ 18446744073709551615 ∧ q0 % 4096 = 0 := by
  obtain ⟨x, _, hr⟩ := h
  cases b with
  | true => simp at hr
  | false =>
    simp only [Bool.false_eq_true, if_false] at hr
    generalize Pl.num 8 (rdTo M a 8 8) = e at hr
    unfold entB at hr
    split at hr
    · cases hr
    · rename_i hl
      split at hr
      · cases hr
      · split at hr
        · simp only [says, Prod.mk.injEq] at hr
          obtain ⟨⟨h0, h1, _⟩, _⟩ := hr
          refine ⟨rfl, ?_, ?_, ?_⟩
          · have h2 : ¬ l = 2 := by
              rintro rfl
              simp at h1
            omega
          · rw [h0]; unfold fr; omega
          · rw [h0]; unfold fr; omega
        · cases hr
set_option maxRecDepth 100000 in
set_option maxHeartbeats 4000000 in
theorem leaf_any {w : World} {m B : Nat} {V : Value × Value × Value} {T : Nat → Option Nat} {M : Nat → Nat} {rs ds : List Sp} {L S X t v : Nat} (h : Mac w m B V T M rs ds L S X) (ht : t ≤ 18446744073709551615) (h4 : t % 4096 = 0) (hv : v ≤ 18446744073709551615) (hX : X ≤ 4611686018427387904) :
    Calls Tryz.prog 77 #[MemV m, .int .u64 (t : Int), .int .u64 (v : Int)] w fun e w' => ∃ r b, e = .returned (.tuple #[EntV r.1, .int .i64 r.2]) ∧ LeafR (rs ++ ds) M v 3 0 t r b ∧ Mac w' m B V T M rs ds L S (up b X) ∧ Keeps (fun j => j = m) w w' := by
  have HM : Hid (Mac w m B V T M rs ds L S X) := h
  clear h
  have HLk : Hid (∀ (W : World) (t k : Nat) (l : Int), Mac W m B V T M rs ds L S X → t + 8 * k ≤ 18446744073709551615 → Calls Tryz.prog 79 #[MemV m, .int .u64 (t : Int), .int .u64 (k : Int), .int .i64 l] W fun e w' => ∃ r b, e = .returned (.tuple #[EntV r.1, .int .i64 r.2]) ∧ LookR (rs ++ ds) M (t + 8 * k) l r b ∧ Mac w' m B V T M rs ds L S (up b X) ∧ Keeps (fun j => j = m) W w') := fun W t k l hW hk => look_any hW hk hX
  have HRe : Hid (∀ (l : Nat), l ≤ 2 → ∀ W, Calls Tryz.prog 80 #[.int .i64 (l : Int)] W fun e w' => e = .returned (.int .u64 (4096 * pgs l : Nat)) ∧ Below W.heap.size W w') := fun l hl W => reach_any hl W
  have hml := HM.out.lt
  obtain ⟨MV, hMV⟩ : ∃ MV, MV = MemV m := ⟨_, rfl⟩
  rw [← hMV] at HLk ⊢
  clear hMV
  go_enter Tryz.func77, Tryz.ntmps77
  go_wp2_with fail
  go_loopw [8, 9] (fun x y wr => ∃ (tt l : Nat), l ≤ 2 ∧ tt ≤ 18446744073709551615 ∧ tt % 4096 = 0 ∧ x = .int .u64 (tt : Int) ∧ y = .int .i64 (l : Int) ∧ Hid (Mac wr m B V T M rs ds L S X) ∧ Hid (Keeps (fun j => j = m) w wr) ∧ Hid (BoxE wr w.heap.size no) ∧ Hid (∀ r b, LeafR (rs ++ ds) M v (3 - l) l tt r b → LeafR (rs ++ ds) M v 3 0 t r b)) (fun _ y _ => match y with | .int _ l => 3 - l.toNat | _ => 0)
  case atStart => exact ⟨t, 0, by omega, ht, h4, rfl, rfl, HM.out.below ((Below.refl _ _).alloc (Nat.le_refl _) _), Keeps.alloc (S := fun j => j = m) w _, BoxE.new w no, fun _ _ h => h⟩
  case round =>
    obtain ⟨tt, l, hl, htt, htt4, rfl, rfl, HMr, HKr, HXr, HLr⟩ := hrel
    have hDp : 0 < 4096 * pgs l := by rcases (show l = 0 ∨ l = 1 ∨ l = 2 by omega) with rfl | rfl | rfl <;> simp [pgs]
    obtain ⟨D, hD⟩ : ∃ D, D = 4096 * pgs l := ⟨_, rfl⟩
    have HD : Hid (D = 4096 * pgs l) := hD
    have hReach := HRe.out l hl
    rw [← hD] at hDp hReach
    have HRe' : Hid (∀ W, Calls Tryz.prog 80 #[.int .i64 (l : Int)] W fun e w' => e = .returned (.int .u64 (D : Int)) ∧ Below W.heap.size W w') := hReach
    clear hReach hD HRe
    go_wp2_with fail
    refine (HRe'.out _).mono ?_
    rintro e w1 ⟨rfl, hb1⟩
    have HB1 : Hid (Below wr.heap.size wr w1) := hb1
    clear hb1
    have hD0 : (D : Int) ≠ 0 := by omega
    have hqv : v / D ≤ v := Nat.div_le_self _ _
    obtain ⟨q, hq⟩ : ∃ q, q = v / D := ⟨_, rfl⟩
    obtain ⟨k, hk⟩ : ∃ k, k = q % 512 := ⟨_, rfl⟩
    have HK : Hid (k = v / D % 512) := by show _ = _; rw [hk, hq]
    rw [← hq] at hqv
    have hw : IntKind.u64.wrap ((v : Int) / (D : Int)) = (q : Int) := by
      rw [← Int.natCast_ediv, ← hq]
      exact U64.wrap_in (by omega) (by omega)
    have hm : (q : Int).tmod 512 = (k : Int) := by
      rw [Int.tmod_eq_emod_of_nonneg (by omega), hk]
      omega
    have hk5 : k < 512 := by omega
    clear hk hq
    go_wp2_with fail
    clear hw hm hqv
    refine (HLk.out w1 tt k l (HMr.out.below HB1.out) (by omega)).mono ?_
    rintro e w2 ⟨⟨⟨q0, q1, q2, q3, q4⟩, q5⟩, b, rfl, hr, hm2, hk2⟩
    have HR : Hid (LookR (rs ++ ds) M (tt + 8 * k) l ((q0, q1, q2, q3, q4), q5) b) := hr
    have HM2 : Hid (Mac w2 m B V T M rs ds L S (up b X)) := hm2
    have HK2 : Hid (Keeps (fun j => j = m) w w2) := (HKr.out.trans (Keeps.of_below (S := fun _ => False) HB1.out) (fun _ _ h => h.elim)).trans hk2 (fun _ _ e => e)
    have HX2 : Hid (BoxE w2 w.heap.size no) := (HXr.out.below HB1.out).keeps hk2 (by omega)
    clear hr hm2 hk2
    obtain ⟨W3, hW3⟩ : ∃ W3, w2.alloc (Obj.cells #[.int .u64 (q0 : Int), .bool q1, .bool q2, .bool q3, .bool q4] 87) = W3 := ⟨_, rfl⟩
    have HE3 : Hid (BoxE W3 w2.heap.size (q0, q1, q2, q3, q4)) := hW3 ▸ BoxE.new w2 (q0, q1, q2, q3, q4)
    have HX3 : Hid (BoxE W3 w.heap.size no) := hW3 ▸ HX2.out.below ((Below.refl _ _).alloc (Nat.le_refl _) _)
    have HB3 : Hid (Below w2.heap.size w2 W3) := hW3 ▸ (Below.refl _ _).alloc (Nat.le_refl _) _
    have hlt := HX2.out.lt
    have hne : w.heap.size ≠ w2.heap.size := Nat.ne_of_lt hlt
    obtain ⟨y0, y1, y2, y3, y4⟩ := HE3.out.cells
    obtain ⟨x0, x1, x2, x3, x4⟩ := HX3.out.cells
    have f0 := HX3.out.frozen 0
    have f1 := HX3.out.frozen 1
    have f2 := HX3.out.frozen 2
    have f3 := HX3.out.frozen 3
    have f4 := HX3.out.frozen 4
    unfold EntV
    have HEnd : Hid (∀ r b, (r.2 ≠ 0 ∨ r.1.2.1 = false) → LookR (rs ++ ds) M (tt + 8 * k) l r b → LeafR (rs ++ ds) M v 3 0 t r b) := fun r b hc hr => HLr.out r b (by
      rw [show 3 - l = (2 - l) + 1 by omega]
      exact ⟨r, b, by rw [← HD.out, ← HK.out]; exact hr, .inl ⟨hc, rfl, rfl⟩⟩)
    by_cases hq5 : q5 = 0
    · subst hq5
      cases q1 with
      | false =>
        go_wp2_with fail
        obtain ⟨d0, d1, d2, d3, d4⟩ := (HX3.out.put (q0, false, q2, q3, q4)).cells
        refine (fun (h : bodyPost _ _ _ _ _ (putE W3 w.heap.size (q0, false, q2, q3, q4))) => h) ?_
        refine bodyPost_ret (v := .tuple #[EntV (q0, false, q2, q3, q4), .int .i64 0]) (by simp [results, Tryz.results77, go_sem, EntV, d0, d1, d2, d3, d4]) rfl ?_
        exact ⟨((q0, false, q2, q3, q4), 0), b, rfl, HEnd.out _ _ (.inr rfl) HR.out, (HM2.out.below HB3.out).keeps (putE_keeps _ _ _) (fun j hj e => by have := HM.out.mine_lt hj; omega), (HK2.out.trans (Keeps.of_below (S := fun _ => False) HB3.out) (fun _ _ h => h.elim)).trans (putE_keeps _ _ _) (fun i hi e => absurd e (by omega))⟩
      | true =>
        obtain ⟨rfl, hl2, hq0, hq4⟩ := look_table HR.out
        go_wp2_with fail
        refine ⟨⟨q0, l + 1, by omega, hq0, hq4, rfl, rfl, HM2.out.below HB3.out, HK2.out.trans (Keeps.of_below (S := fun _ => False) HB3.out) (fun _ _ h => h.elim), HX3.out, fun r b hr => HLr.out r b ?_⟩, by show _ < _; simp; omega⟩
        rw [show 3 - l = (3 - (l + 1)) + 1 by omega]
        exact ⟨_, _, by rw [← HD.out, ← HK.out]; exact HR.out, .inr ⟨rfl, rfl, hr⟩⟩
    · go_wp2_with fail
      obtain ⟨d0, d1, d2, d3, d4⟩ := (HX3.out.put (q0, q1, q2, q3, q4)).cells
      refine (fun (h : bodyPost _ _ _ _ _ (putE W3 w.heap.size (q0, q1, q2, q3, q4))) => h) ?_
      refine bodyPost_ret (v := .tuple #[EntV (q0, q1, q2, q3, q4), .int .i64 q5]) (by simp [results, Tryz.results77, go_sem, EntV, d0, d1, d2, d3, d4]) rfl ?_
      exact ⟨((q0, q1, q2, q3, q4), q5), b, rfl, HEnd.out _ _ (.inl hq5) HR.out, (HM2.out.below HB3.out).keeps (putE_keeps _ _ _) (fun j hj e => by have := HM.out.mine_lt hj; omega), (HK2.out.trans (Keeps.of_below (S := fun _ => False) HB3.out) (fun _ _ h => h.elim)).trans (putE_keeps _ _ _) (fun i hi e => absurd e (by omega))⟩
end Go.Proofs.YtlplbbnicfeoaaaGreat
