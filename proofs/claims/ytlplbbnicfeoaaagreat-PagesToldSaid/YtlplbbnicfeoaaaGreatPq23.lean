import Derived.Test.YtlplbbnicfeoaaaGreatPq22
import Derived.Test.YtlplbbnicfeoaaaGreatPq16
import Derived.Test.YtlplbbnicfeoaaaGreatPq01
/- ask, askWidth: is an access on the bus? Own work. -/
namespace Go.Proofs.YtlplbbnicfeoaaaGreat
open Go.RowKit Go.Maps Go.Proofs.YtlplbbnicfeoaaaGreat.Sp
/-- a Fault in its box -/
def BoxF (w : World) (b : Nat) (x y : Int) : Prop := w.heap[b]? = some (.cells #[.int .i64 x, .int .u64 y] 57 (0, 0))
theorem BoxF.cells {w : World} {b : Nat} {x y : Int} (h : BoxF w b x y) : w.cell? ⟨b, 0, none⟩ = some (.int .i64 x) ∧ w.cell? ⟨b, 1, none⟩ = some (.int .u64 y) ∧ w.frozen? ⟨b, 0, none⟩ = false ∧ w.frozen? ⟨b, 1, none⟩ = false := by
  refine ⟨?_, ?_, by simp [World.frozen?, show w.heap[b]? = _ from h], by simp [World.frozen?, show w.heap[b]? = _ from h]⟩ <;> rw [cell_of_row w b _ _ _ _ h] <;> rfl
theorem BoxF.set {w : World} {b : Nat} {x y : Int} (h : BoxF w b x y) (x' y' : Int) : BoxF ((w.setCell ⟨b, 0, none⟩ (.int .i64 x')).setCell ⟨b, 1, none⟩ (.int .u64 y')) b x' y' := by
  have h' : w.heap[b]? = _ := h
  simp [BoxF, World.setCell, Array.getElem?_modify, h']
theorem BoxF.lt {w : World} {b : Nat} {x y : Int} (h : BoxF w b x y) : b < w.heap.size := (Array.getElem?_eq_some_iff.1 h).1
theorem BoxF.below {w w' : World} {b : Nat} {x y : Int} (h : BoxF w b x y) (hb : Below w.heap.size w w') : BoxF w' b x y := (hb.block b h.lt).trans h
theorem BoxF.keeps {Z : Nat → Prop} {w w' : World} {b : Nat} {x y : Int} (h : BoxF w b x y) (hk : Keeps Z w w') (hn : ¬ Z b) : BoxF w' b x y := (hk.block b h.lt hn).trans h
theorem BoxF.new (w : World) (x y : Int) : BoxF (w.alloc (Obj.cells #[.int .i64 x, .int .u64 y] 57)) w.heap.size x y := heap_alloc_new w _
def FaultV (why at_ : Int) : Value := .agg #[.int .i64 why, .int .u64 at_]
def up (b : Bool) (n : Nat) : Nat := if b then n + 1 else n
/-- what an access asks -/
def AskPost (w : World) (m B : Nat) (V : Value × Value × Value) (T : Nat → Option Nat) (M : Nat → Nat) (rs ds : List Sp) (L S X a n : Nat) (e : Ending) (w' : World) : Prop :=
  ∃ x b, OffR (rs ++ ds) a n x b ∧ e = .returned (FaultV (if b then 30 else 0) x) ∧ Mac w' m B V T M rs ds L S (up b X) ∧ Keeps (fun j => j = m) w w'
set_option maxRecDepth 100000 in
set_option maxHeartbeats 4000000 in
theorem ask_any {w : World} {m B : Nat} {V : Value × Value × Value} {T : Nat → Option Nat} {M : Nat → Nat} {rs ds : List Sp} {L S X a n : Nat} (h : Mac w m B V T M rs ds L S X) (ha : a ≤ 18446744073709551615) (hn : n ≤ 9223372036854775807) (hX : X ≤ 4611686018427387904) :
    Calls Tryz.prog 72 #[.pointer (some ⟨m, 0, none⟩), .int .u64 (a : Int), .int .i64 (n : Int)] w (AskPost w m B V T M rs ds L S X a n) := by
  have HM : Hid (Mac w m B V T M rs ds L S X) := h
  have HO : Hid (∀ W, Below w.heap.size w W → Calls Tryz.prog 88 #[.pointer (some ⟨m, 0, none⟩), .int .u64 (a : Int), .int .i64 (n : Int)] W fun e w' => ∃ x b, e = .returned (.tuple #[.int .u64 x, .bool b]) ∧ OffR (rs ++ ds) a n x b ∧ Below W.heap.size W w') := fun W hW => off_any (h.below hW) ha hn
  clear h
  go_enter Tryz.func72, Tryz.ntmps72
  go_wp2_with fail
  refine (HO.out _ ((Below.refl _ _).alloc (Nat.le_refl _) _)).mono ?_
  rintro e w1 ⟨x, b, rfl, ho, hb1⟩
  have HOff : Hid (OffR (rs ++ ds) a n x b) := ho
  have HB1 : Hid (Below w.heap.size w w1) := ((Below.refl _ _).alloc (Nat.le_refl _) _).trans (hb1.mono (by simp))
  have HX1 : Hid (BoxF w1 w.heap.size 0 0) := (BoxF.new w 0 0).below hb1
  have HM1 : Hid (Mac w1 m B V T M rs ds L S X) := HM.out.below HB1.out
  obtain ⟨x0, x1, f0, f1⟩ := HX1.out.cells
  obtain ⟨_, _, c2, _, g2⟩ := HM1.out.cells
  have g2 := g2 2
  have hml := HM.out.lt
  clear ho hb1 HO
  cases b with
  | false =>
    go_wp2_with fail
    obtain ⟨d0, d1, _⟩ := (HX1.out.set 0 0).cells
    refine bodyPost_ret (v := .agg #[.int .i64 0, .int .u64 0]) (by simp [results, Tryz.results72, go_sem, d0, d1]) rfl ?_
    have hb2 := (HB1.out.setCell (p := ⟨w.heap.size, 0, none⟩) (Nat.le_refl _) (.int .i64 0)).setCell (p := ⟨w.heap.size, 1, none⟩) (Nat.le_refl _) (.int .u64 0)
    refine ⟨x, false, HOff.out, ?_, HM.out.below hb2, Keeps.of_below hb2⟩
    rw [(HOff.out.2 rfl).1]
    rfl
  | true =>
    have hb3 : BoxF (w1.setCell ⟨m, 2, none⟩ (.int .i64 ((X : Int) + 1))) w.heap.size 0 0 := HX1.out.keeps (Keeps.setCell _ _ _ _) (by omega)
    have HX3 : Hid (BoxF (w1.setCell ⟨m, 2, none⟩ (.int .i64 ((X : Int) + 1))) w.heap.size 0 0) := hb3
    obtain ⟨y0, y1, k0, k1⟩ := hb3.cells
    clear hb3
    go_wp2_with fail
    obtain ⟨d0, d1, _⟩ := (HX3.out.set 30 x).cells
    refine bodyPost_ret (v := .agg #[.int .i64 30, .int .u64 x]) (by simp [results, Tryz.results72, go_sem, d0, d1]) rfl ?_
    have hk : Keeps (fun j => j = m) w (((w1.setCell ⟨m, 2, none⟩ (.int .i64 ((X : Int) + 1))).setCell ⟨w.heap.size, 0, none⟩ (.int .i64 30)).setCell ⟨w.heap.size, 1, none⟩ (.int .u64 x)) :=
      (((Keeps.of_below (S := fun j => j = m) HB1.out).trans (Keeps.setCell _ _ _ _) (fun _ _ e => e)).trans (Keeps.setCell _ _ _ _) (fun i hi e => absurd e (by omega))).trans (Keeps.setCell _ _ _ _) (fun i hi e => absurd e (by omega))
    refine ⟨x, true, HOff.out, rfl, HM.out.recount hk (fun h0 => ?_), hk⟩
    rw [Below.heap_setCell _ _ _ _ (show m ≠ w.heap.size by omega), Below.heap_setCell _ _ _ _ (show m ≠ w.heap.size by omega)]
    have h1 := (HB1.out.block m hml).trans h0
    simp only [World.setCell, Array.getElem?_modify]
    rw [if_pos trivial, h1]
    simp [up]
end Go.Proofs.YtlplbbnicfeoaaaGreat
/- Put of no bytes and a number of 64 bits; Sub. Own work. -/
namespace Go.Proofs.YtlplbbnicfeoaaaGreat
open Go.RowKit Go.Maps
set_option maxRecDepth 100000 in
set_option maxHeartbeats 2000000 in
theorem put_nil {n : Nat} (w : World) (hn : n ≤ 18446744073709551615) : Calls Tryz.prog 45 #[.slice none 0 0, .int .u64 (n : Int)] w fun e w' => ∃ v', e = .returned v' ∧ Own w' w.heap.size v' (Pl.le 8 n) ∧ Below w.heap.size w w' := by
  obtain ⟨i, hi, hz0, hz1, hz2⟩ := info_parts info_byte
  have hsz : (Tryz.prog.info? 5).map (·.size) = some 1 := by rw [hi, Option.map_some, hz1]
  have HSz : Hid ((Tryz.prog.info? 5).map (·.size) = some 1) := hsz
  have HB : Hid (i.bytes * 8 ≤ 281474976710656) := by rw [hz2]; show (1 * 8 : Nat) ≤ _; omega
  have HI : Hid (Tryz.prog.info? 5 = some i ∧ i.zero = some (.int .u8 0) ∧ i.size = 1) := ⟨hi, hz0, hz1⟩
  clear hsz hi hz0 hz1 hz2
  go_enter Tryz.func45, Tryz.ntmps45
  go_wp2_with (first | (go_at_call 75; refine (size_u64 _).mono ?_; rintro e w' ⟨rfl, hw⟩; have hw := hw.symm; subst hw) | (at_make; refine wpList_make_own _ rfl _ _ 104 rfl w.heap.size 5 i (.int .u8 0) 1 Tryz.underlying104 HI.out.1 HI.out.2.1 HI.out.2.2 _ _ _ 8 rfl rfl rfl HB.out (by decide) (Nat.le_refl _) ?_; intro w1 hown hgrow; have HO1 : Hid (Own w1 w.heap.size (.slice (some ⟨w.heap.size, 0, none⟩) 0 8) []) := hown; have HG1 : Hid (w.grownBy w1 none) := hgrow; clear hown hgrow) | (refine wpList_copy_nothing rfl (.tmp 13) (.tmp 14) _ _ rfl 5 Tryz.underlying104 HSz.out _ _ _ _ _ _ rfl rfl rfl ?_))
  refine (extend_u64 HO1.out hn (by decide) HG1.out.size).mono ?_
  rintro e w2 ⟨v2, rfl, ho2, hk2, ha2⟩
  have HO2 : Hid (Own w2 w.heap.size v2 (Pl.le 8 n)) := by rw [List.nil_append] at ho2; exact ho2
  have HB2 : Hid (Below w.heap.size w w2) := (below_grown HG1.out (Nat.le_refl _) (by simp)).trans (hk2.below HG1.out.size (fun i _ e => by cases e; exact Nat.le_refl _))
  clear ho2 hk2 ha2
  go_wp2_with fail
  go_ret
  exact ⟨_, rfl, HO2.out, HB2.out⟩
def subB (a b : Int) : Int × Bool := if a < b then (0, false) else (a - b, true)
end Go.Proofs.YtlplbbnicfeoaaaGreat
/- askWidth; Peek, Load, Store. Own work. -/
namespace Go.Proofs.YtlplbbnicfeoaaaGreat
open Go.RowKit Go.Maps Go.Proofs.YtlplbbnicfeoaaaGreat.Sp
theorem Keeps.two (w : World) (b : Nat) (u v : Value) : Keeps (fun j => j = b) w ((w.setCell ⟨b, 0, none⟩ u).setCell ⟨b, 1, none⟩ v) :=
  (Keeps.setCell w b 0 u).trans (Keeps.setCell _ b 1 v) (fun _ _ e => e)
theorem slice8_h (w : World) (g n : Nat) (hn : n ≤ 8) : (Instr.sliceAt 201 (.pointer (some ⟨g, 0, none⟩)) none (some (.int .i64 (n : Int))) none).run Tryz.prog w = .ok (.slice (some ⟨g, 0, none⟩) n 8) w := by
  obtain ⟨i, hi, _, hz1, _⟩ := info_parts info_byte
  have hs : (sizeOf 5).run Tryz.prog w = .ok 1 w := by simp only [sizeOf, typeInfo, Sem.run_bind, run_program, Result.andThen_ok, hi, Sem.run_pure, hz1]
  have hu : Tryz.prog.underlying 201 = some (.array 8 5) := Tryz.underlying201
  have hb : ∀ code, (Instr.sliceBound (.int .i64 (n : Int)) 8 code).run Tryz.prog w = .ok n w := fun code => by
    have h1 : (0 : Int) ≤ (n : Int) ∧ (n : Int) ≤ ((8 : Nat) : Int) := by omega
    simp only [Instr.sliceBound, asIntOf, Sem.run_bind, Sem.run_pure, Result.andThen_ok, if_pos h1, Int.toNat_natCast]
  have e : (⟨g, 0, none⟩ : Addr).add (0 * 1) = ⟨g, 0, none⟩ := by rw [Addr.add_mid]
  simp only [Instr.sliceAt, Instr.sureAddr, run_underlying hu, Sem.run_bind, Result.andThen_ok, Sem.run_pure, Instr.sliceBounds, hb, hs]
  rw [if_neg (by omega), e]
  rfl
theorem slice8_all (w : World) (g : Nat) : (Instr.sliceAt 201 (.pointer (some ⟨g, 0, none⟩)) none none none).run Tryz.prog w = .ok (.slice (some ⟨g, 0, none⟩) 8 8) w := by
  obtain ⟨i, hi, _, hz1, _⟩ := info_parts info_byte
  have hs : (sizeOf 5).run Tryz.prog w = .ok 1 w := by simp only [sizeOf, typeInfo, Sem.run_bind, run_program, Result.andThen_ok, hi, Sem.run_pure, hz1]
  have hu : Tryz.prog.underlying 201 = some (.array 8 5) := Tryz.underlying201
  have e : (⟨g, 0, none⟩ : Addr).add (0 * 1) = ⟨g, 0, none⟩ := by rw [Addr.add_mid]
  simp only [Instr.sliceAt, Instr.sureAddr, run_underlying hu, Sem.run_bind, Result.andThen_ok, Sem.run_pure, Instr.sliceBounds, hs]
  rw [if_neg (by omega), e]
theorem heap_alloc_new' {w : World} {n : Nat} (h : w.heap.size = n) (o : Obj) : (w.alloc o).heap[n]? = some o := by
  subst h; exact heap_alloc_new w o
theorem keeps_drewn {Z : Nat → Prop} {w w' : World} (h : Keeps Z w.drew w') : Keeps Z w w' := ⟨h.os, h.tape, h.output, h.size, h.block⟩
theorem rdTo_small {M : Nat → Nat} (hM : ∀ p, M p < 256) (a C i : Nat) : ∀ z ∈ rdTo M a C i, z < 256 := by
  intro z hz
  rcases List.mem_append.1 hz with h | h
  · obtain ⟨j, _, rfl⟩ := List.mem_map.1 h
    exact hM _
  · rw [List.eq_of_mem_replicate h]; decide
theorem rowT_sl {w : World} {t : TypeId} {g : Nat} {L : List Nat} (h : RowT w t g L) {n : Nat} (hn : L.length = n) (hz : ∀ z ∈ L, z < 256) (hm : n ≤ maxLen := by decide) : Sl w (.slice (some ⟨g, 0, none⟩) n n) L := by
  subst hn
  refine ⟨_, L.length, rfl, Nat.le_refl _, hm, hz, by simp, fun i hi => ⟨g, 0, rfl, ?_⟩⟩
  rw [Nat.zero_add, cell_of_row w g i _ _ _ h, List.getElem?_toArray, bvs_get _ _ hi]
theorem off_low {w : World} {m B : Nat} {V : Value × Value × Value} {T : Nat → Option Nat} {M : Nat → Nat} {rs ds : List Sp} {L S X a n : Nat} {x : Int} (h : OffR (rs ++ ds) a n x false) (hM : Mac w m B V T M rs ds L S X) (hn : 0 < n) : a + n ≤ 4294967296 := by
  obtain ⟨G, _, _, _, _, _, _, h6, _⟩ := hM
  obtain ⟨r, hr, h1, h2⟩ := (h.2 rfl).2 (n - 1) (by omega)
  have := h6 r hr
  omega
def Wide (n : Nat) : Prop := n = 1 ∨ n = 2 ∨ n = 4 ∨ n = 8
set_option maxRecDepth 100000 in
set_option maxHeartbeats 4000000 in
theorem askWidth_any {w : World} {m B : Nat} {V : Value × Value × Value} {T : Nat → Option Nat} {M : Nat → Nat} {rs ds : List Sp} {L S X a n : Nat} (h : Mac w m B V T M rs ds L S X) (ha : a ≤ 18446744073709551615) (hn : Wide n) (hX : X ≤ 4611686018427387904) :
    Calls Tryz.prog 43 #[.pointer (some ⟨m, 0, none⟩), .int .u64 (a : Int), .int .i64 (n : Int)] w (AskPost w m B V T M rs ds L S X a n) := by
  have HA : Hid (∀ W, Below w.heap.size w W → Calls Tryz.prog 72 #[.pointer (some ⟨m, 0, none⟩), .int .u64 (a : Int), .int .i64 (n : Int)] W (AskPost W m B V T M rs ds L S X a n)) := fun W hW => ask_any (h.below hW) ha (by rcases hn with h | h | h | h <;> omega) hX
  have HM : Hid (Mac w m B V T M rs ds L S X) := h
  have hml := h.lt
  clear h
  rcases hn with rfl | rfl | rfl | rfl
  all_goals
    go_enter Tryz.func43, Tryz.ntmps43
    go_wp2_with fail
    refine (HA.out _ ((Below.refl _ _).alloc (Nat.le_refl _) _)).mono ?_
    rintro e w1 ⟨x, b, ho, rfl, hm1, hk1⟩
    have HOff : Hid (OffR (rs ++ ds) a _ x b) := ho
    have HX1 : Hid (BoxF w1 w.heap.size 0 0) := (BoxF.new w 0 0).keeps hk1 (by omega)
    have HM1 : Hid (Mac w1 m B V T M rs ds L S (up b X)) := hm1
    have HK1 : Hid (Keeps (fun j => j = m) w w1) := (Keeps.alloc (S := fun j => j = m) w _).trans hk1 (fun _ _ e => e)
    obtain ⟨x0, x1, f0, f1⟩ := HX1.out.cells
    clear ho hm1 hk1 HA
    unfold FaultV
    obtain ⟨why, hwhy⟩ : ∃ why, why = (if b = true then (30 : Int) else 0) := ⟨_, rfl⟩
    have HWhy : Hid (why = (if b = true then (30 : Int) else 0)) := hwhy
    rw [← hwhy]
    clear hwhy
    go_wp2_with fail
    obtain ⟨d0, d1, _⟩ := (HX1.out.set why x).cells
    refine bodyPost_ret (v := .agg #[.int .i64 why, .int .u64 x]) (by simp [results, Tryz.results43, go_sem, d0, d1]) rfl ?_
    have hk2 := Keeps.two w1 w.heap.size (.int .i64 why) (.int .u64 x)
    exact ⟨x, b, HOff.out, by rw [HWhy.out]; rfl, HM1.out.keeps hk2 (fun j hj e => by have := HM.out.mine_lt hj; omega), HK1.out.trans hk2 (fun i hi e => absurd e (by omega))⟩
set_option maxRecDepth 100000 in
set_option maxHeartbeats 4000000 in
theorem askWidth_not {w : World} {m : Nat} {a n : Int} (hn : n ≠ 1 ∧ n ≠ 2 ∧ n ≠ 4 ∧ n ≠ 8) :
    Calls Tryz.prog 43 #[.pointer (some ⟨m, 0, none⟩), .int .u64 a, .int .i64 n] w fun e w' => e = .returned (FaultV 31 a) ∧ Below w.heap.size w w' := by
  obtain ⟨n1, n2, n3, n4⟩ := hn
  go_enter Tryz.func43, Tryz.ntmps43
  go_wp2_with fail
  obtain ⟨d0, d1, _⟩ := (BoxF.new w 31 a).cells
  refine bodyPost_ret (v := .agg #[.int .i64 31, .int .u64 a]) (by simp [results, Tryz.results43, go_sem, d0, d1]) rfl ?_
  exact ⟨rfl, (Below.refl _ _).alloc (Nat.le_refl _) _⟩
/-- what Peek answers -/
def PeekPost (w : World) (m B : Nat) (V : Value × Value × Value) (T : Nat → Option Nat) (M : Nat → Nat) (rs ds : List Sp) (L S X a n : Nat) (e : Ending) (w' : World) : Prop :=
  ∃ x b, OffR (rs ++ ds) a n x b ∧ e = .returned (.tuple #[.int .u64 (if b then 0 else (Pl.num 8 (rdTo M a 8 n) : Nat) : Int), FaultV (if b then 30 else 0) x]) ∧ Mac w' m B V T M rs ds L S (up b X) ∧ Keeps (fun j => j = m) w w'
set_option maxRecDepth 100000 in
set_option maxHeartbeats 4000000 in
theorem peek_any {w : World} {m B : Nat} {V : Value × Value × Value} {T : Nat → Option Nat} {M : Nat → Nat} {rs ds : List Sp} {L S X a n : Nat} (h : Mac w m B V T M rs ds L S X) (ha : a ≤ 18446744073709551615) (hn : Wide n) (hX : X ≤ 4611686018427387904) :
    Calls Tryz.prog 135 #[.pointer (some ⟨m, 0, none⟩), .int .u64 (a : Int), .int .i64 (n : Int)] w (PeekPost w m B V T M rs ds L S X a n) := by
  have HA : Hid (∀ W, Below w.heap.size w W → Calls Tryz.prog 43 #[.pointer (some ⟨m, 0, none⟩), .int .u64 (a : Int), .int .i64 (n : Int)] W (AskPost W m B V T M rs ds L S X a n)) := fun W hW => askWidth_any (h.below hW) ha hn hX
  have HM : Hid (Mac w m B V T M rs ds L S X) := h
  have hml := h.lt
  clear h
  go_enter Tryz.func135, Tryz.ntmps135
  go_wp2_with fail
  refine (HA.out _ ((Below.refl _ _).alloc (Nat.le_refl _) _)).mono ?_
  rintro e w1 ⟨x, b, ho, rfl, hm1, hk1⟩
  have HOff : Hid (OffR (rs ++ ds) a n x b) := ho
  have HX1 : Hid (BoxF w1 w.heap.size 0 0) := (BoxF.new w 0 0).keeps hk1 (by omega)
  have HM1 : Hid (Mac w1 m B V T M rs ds L S (up b X)) := hm1
  have HK1 : Hid (Keeps (fun j => j = m) w w1) := (Keeps.alloc (S := fun j => j = m) w _).trans hk1 (fun _ _ e => e)
  obtain ⟨x0, x1, f0, f1⟩ := HX1.out.cells
  clear ho hm1 hk1 HA
  unfold FaultV
  cases b with
  | true =>
    simp only [if_true]
    go_wp2_with fail
    obtain ⟨W2, hW2⟩ : ∃ W2, w1.alloc (Obj.cells #[.int .i64 30, .int .u64 x] 57) = W2 := ⟨_, rfl⟩
    have HF2 : Hid (BoxF W2 w1.heap.size 30 x) := hW2 ▸ BoxF.new w1 30 x
    have HX2 : Hid (BoxF W2 w.heap.size 0 0) := hW2 ▸ HX1.out.below ((Below.refl _ _).alloc (Nat.le_refl _) _)
    have HB2 : Hid (Below w1.heap.size w1 W2) := hW2 ▸ (Below.refl _ _).alloc (Nat.le_refl _) _
    rw [hW2]
    have hne : w.heap.size ≠ w1.heap.size := Nat.ne_of_lt HX1.out.lt
    obtain ⟨x0, x1, f0, f1⟩ := HX2.out.cells
    obtain ⟨y0, y1, _, _⟩ := HF2.out.cells
    clear hW2
    go_region_held3 (fun w' => w'.cell? ⟨w1.heap.size, 0, none⟩ = some (.int .i64 30) ∧ w'.cell? ⟨w1.heap.size, 1, none⟩ = some (.int .u64 x)) (go_keep) (fail)
    go_wp2_with fail
    obtain ⟨d0, d1, _⟩ := BoxF.cells (w := ((W2.setCell ⟨w.heap.size, 0, none⟩ (.int .i64 30)).setCell ⟨w.heap.size, 1, none⟩ (.int .u64 x)).drew) (HX2.out.set 30 x)
    refine bodyPost_ret (v := .tuple #[.int .u64 0, .agg #[.int .i64 30, .int .u64 x]]) (by simp [results, Tryz.results135, go_sem, d0, d1]) rfl ?_
    have hk2 : Keeps (fun j => j = w.heap.size) W2 (((W2.setCell ⟨w.heap.size, 0, none⟩ (.int .i64 30)).setCell ⟨w.heap.size, 1, none⟩ (.int .u64 x)).drew) := (Keeps.two W2 w.heap.size (.int .i64 30) (.int .u64 x)).drew
    exact ⟨x, true, HOff.out, rfl, (HM1.out.below HB2.out).keeps hk2 (fun j hj e => by have := HM.out.mine_lt hj; omega), (HK1.out.trans (Keeps.of_below (S := fun _ => False) HB2.out) (fun _ _ h => h.elim)).trans hk2 (fun i hi e => absurd e (by omega))⟩
  | false =>
    simp only [Bool.false_eq_true, if_false]
    have hn8 : n ≤ 8 := by rcases hn with h | h | h | h <;> omega
    have hs8 := fun W g => slice8_h W g n hn8
    have hs9 := slice8_all
    have HRange : Hid (a + n ≤ 4294967296) := off_low HOff.out HM.out (by rcases hn with h | h | h | h <;> omega)
    go_wp2_with fail
    obtain ⟨W2, hW2⟩ : ∃ W2, (w1.alloc (Obj.cells #[.int .i64 0, .int .u64 x] 57)).alloc (Obj.cells #[.int .u8 0, .int .u8 0, .int .u8 0, .int .u8 0, .int .u8 0, .int .u8 0, .int .u8 0, .int .u8 0] 201) = W2 := ⟨_, rfl⟩
    have HB2 : Hid (Below w1.heap.size w1 W2) := hW2 ▸ ((Below.refl _ _).alloc (Nat.le_refl _) _).alloc (by simp) _
    have HX2 : Hid (BoxF W2 w.heap.size 0 0) := HX1.out.below HB2.out
    have HR2 : Hid (RowT W2 201 (w1.heap.size + 1) (List.replicate 8 0)) := by rw [← hW2]; exact heap_alloc_new' (by simp) _
    have HM2 : Hid (Mac W2 m B V T M rs ds L S X) := HM1.out.below HB2.out
    rw [hW2]
    have hne : w.heap.size ≠ w1.heap.size := Nat.ne_of_lt HX1.out.lt
    have hlt1 := HX1.out.lt
    obtain ⟨x0, x1, f0, f1⟩ := HX2.out.cells
    obtain ⟨_, _, _, c6, _⟩ := HM2.out.cells
    have HRd : Hid (Calls Tryz.prog 136 #[.map (some B), .int .u64 (a : Int), .slice (some ⟨w1.heap.size + 1, 0, none⟩) n 8] W2.drew fun e w' => e = .returned (.tuple #[]) ∧ RowT w' 201 (w1.heap.size + 1) (rdTo M a 8 n) ∧ Keeps (fun j => j = w1.heap.size + 1) W2.drew w') :=
      read_any (w := W2.drew) HM2.out.held HRange.out HR2.out (fun hf => by have := HM1.out.held.foot_lt hf; omega) hn8 hn8 (by decide)
    clear hW2
    go_region_held3 (fun w' => w'.cell? ⟨m, 6, none⟩ = some (.map (some B))) (go_keep) (first | (go_at_call 136; refine HRd.out.mono ?_; rintro e w3 ⟨rfl, hr3, hk3⟩; have HR3 : Hid (RowT w3 201 (w1.heap.size + 1) (rdTo M a 8 n)) := hr3; have HK3 : Hid (Keeps (fun j => j = w1.heap.size + 1) W2 w3) := keeps_drewn hk3; have c63 : w3.cell? ⟨m, 6, none⟩ = some (.map (some B)) := (World.cell?_of_block (w := W2) (a := ⟨m, 6, none⟩) (HK3.out.block m HM2.out.lt (by show ¬ m = _; have := HM1.out.lt; omega))).trans c6; clear hr3 hk3))
    have HX3 : Hid (BoxF w3 w.heap.size 0 0) := HX2.out.keeps HK3.out (by omega)
    obtain ⟨x0, x1, f0, f1⟩ := HX3.out.cells
    have HSl : Hid (Sl w3 (.slice (some ⟨w1.heap.size + 1, 0, none⟩) 8 8) (rdTo M a 8 n)) := rowT_sl HR3.out (rdTo_length _ _ _ _ hn8) (rdTo_small HM2.out.held.2.2.2.2.1 _ _ _)
    have HGt : Hid (Calls Tryz.prog 137 #[.slice (some ⟨w1.heap.size + 1, 0, none⟩) 8 8] w3 fun e w' => e = .returned (.tuple #[.int .u64 (Pl.num 8 (rdTo M a 8 n) : Nat), .bool true]) ∧ w' = w3) := get_u64_yes HSl.out (Nat.le_of_eq (rdTo_length _ _ _ _ hn8).symm)
    clear HSl c63 c6
    go_wp2_with (first | (go_at_call 137; refine HGt.out.mono ?_; rintro e w' ⟨rfl, hw⟩; have hw := hw.symm; subst hw))
    obtain ⟨d0, d1, _⟩ := (HX3.out.set 0 0).cells
    refine bodyPost_ret (v := .tuple #[.int .u64 ((Pl.num 8 (rdTo M a 8 n) : Nat) : Int), .agg #[.int .i64 0, .int .u64 0]]) (by simp [results, Tryz.results135, go_sem, d0, d1]) rfl ?_
    have hk2 := Keeps.two w3 w.heap.size (.int .i64 0) (.int .u64 0)
    have hx : x = 0 := (HOff.out.2 rfl).1
    refine ⟨x, false, HOff.out, by rw [hx]; rfl, (HM2.out.keeps HK3.out (fun j hj e => ?_)).keeps hk2 (fun j hj e => ?_), ((HK1.out.trans (Keeps.of_below (S := fun _ => False) HB2.out) (fun _ _ h => h.elim)).trans HK3.out (fun i hi e => absurd e ?_)).trans hk2 (fun i hi e => absurd e (by omega))⟩
    · have := HM.out.mine_lt hj; omega
    · have := HM.out.mine_lt hj; omega
    · omega
/-- what Load answers -/
def LoadPost (w : World) (m B : Nat) (V : Value × Value × Value) (T : Nat → Option Nat) (M : Nat → Nat) (rs ds : List Sp) (L S X a n : Nat) (e : Ending) (w' : World) : Prop :=
  ∃ x b, OffR (rs ++ ds) a n x b ∧ e = .returned (.tuple #[.int .u64 (if b then 0 else (Pl.num 8 (rdTo M a 8 n) : Nat) : Int), FaultV (if b then 30 else 0) x]) ∧ Mac w' m B V T M rs ds (up (!b) L) S (up b X) ∧ Keeps (fun j => j = m) w w'
end Go.Proofs.YtlplbbnicfeoaaaGreat
/- look: an entry of a table in a machine's memory. Own work. -/
namespace Go.Proofs.YtlplbbnicfeoaaaGreat
open Go.RowKit Go.Maps Go.Proofs.YtlplbbnicfeoaaaGreat.Sp Wk
theorem BoxE.keeps {Z : Nat → Prop} {w w' : World} {g : Nat} {x : Ent} (h : BoxE w g x) (hk : Keeps Z w w') (hn : ¬ Z g) : BoxE w' g x := (hk.block g h.lt hn).trans h
theorem BoxE.frozen {w : World} {g : Nat} {x : Ent} (h : BoxE w g x) (i : Nat) : w.frozen? ⟨g, i, none⟩ = false := by
  have h' : w.heap[g]? = _ := h
  simp [World.frozen?, h']
/-- an entry, written over another -/
def putE (w : World) (g : Nat) (x : Ent) : World := ((((w.setCell ⟨g, 0, none⟩ (.int .u64 (x.1 : Int))).setCell ⟨g, 1, none⟩ (.bool x.2.1)).setCell ⟨g, 2, none⟩ (.bool x.2.2.1)).setCell ⟨g, 3, none⟩ (.bool x.2.2.2.1)).setCell ⟨g, 4, none⟩ (.bool x.2.2.2.2)
theorem putE_keeps (w : World) (g : Nat) (x : Ent) : Keeps (fun j => j = g) w (putE w g x) :=
  ((((Keeps.setCell w g 0 _).trans (Keeps.setCell _ g 1 _) (fun _ _ e => e)).trans (Keeps.setCell _ g 2 _) (fun _ _ e => e)).trans (Keeps.setCell _ g 3 _) (fun _ _ e => e)).trans (Keeps.setCell _ g 4 _) (fun _ _ e => e)
theorem BoxE.put {w : World} {g : Nat} {y : Ent} (h : BoxE w g y) (x : Ent) : BoxE (putE w g x) g x := by
  have h' : w.heap[g]? = _ := h
  simp [BoxE, putE, World.setCell, Array.getElem?_modify, h']
/-- a machine as a Memory -/
def MemV (m : Nat) : Value := .iface 31 (.pointer (some ⟨m, 0, none⟩))
/-- eight bytes of a machine, or that they are not on the bus -/
def LookR (rs : List Sp) (M : Nat → Nat) (a : Nat) (l : Int) (r : Ent × Int) (b : Bool) : Prop := ∃ x, OffR rs a 8 x b ∧ r = if b then (no, 42) else entB (Pl.num 8 (rdTo M a 8 8)) l
set_option maxRecDepth 100000 in
set_option maxHeartbeats 4000000 in
theorem look_any {w : World} {m B : Nat} {V : Value × Value × Value} {T : Nat → Option Nat} {M : Nat → Nat} {rs ds : List Sp} {L S X t k : Nat} {l : Int} (h : Mac w m B V T M rs ds L S X) (ht : t + 8 * k ≤ 18446744073709551615) (hX : X ≤ 4611686018427387904) :
    Calls Tryz.prog 79 #[MemV m, .int .u64 (t : Int), .int .u64 (k : Int), .int .i64 l] w fun e w' => ∃ r b, e = .returned (.tuple #[EntV r.1, .int .i64 r.2]) ∧ LookR (rs ++ ds) M (t + 8 * k) l r b ∧ Mac w' m B V T M rs ds L S (up b X) ∧ Keeps (fun j => j = m) w w' := by
  have HM : Hid (Mac w m B V T M rs ds L S X) := h
  clear h
  have hme : ∀ (w : World) (p : Option Addr), (method 305 31 (.pointer p) "Peek").run Tryz.prog w = .ok (135, .pointer p) w := fun _ _ => by kernel_rfl
  obtain ⟨a, ha⟩ : ∃ a, a = t + 8 * k := ⟨_, rfl⟩
  have hai : (t : Int) + 8 * (k : Int) = (a : Int) := by omega
  have HPk : Hid (∀ W, Below w.heap.size w W → Calls Tryz.prog 135 #[.pointer (some ⟨m, 0, none⟩), .int .u64 (a : Int), .int .i64 8] W (PeekPost W m B V T M rs ds L S X a 8)) := fun W hW => peek_any (HM.out.below hW) (by omega) (.inr (.inr (.inr rfl))) hX
  have HEn : Hid (∀ e : Nat, e < 18446744073709551616 → ∀ W, Calls Tryz.prog 82 #[.int .u64 (e : Int), .int .i64 l] W (EntPost W (entB e l))) := fun e he W => entry_any he l W
  rw [← ha]
  clear ha
  unfold MemV
  go_enter Tryz.func79, Tryz.ntmps79
  go_wp2_with fail
  refine (HPk.out _ ((Below.refl _ _).alloc (Nat.le_refl _) _)).mono ?_
  rintro e w1 ⟨x, b, ho, rfl, hm1, hk1⟩
  have hml := HM.out.lt
  have HOff : Hid (OffR (rs ++ ds) a 8 x b) := ho
  have HX1 : Hid (BoxE w1 w.heap.size no) := (BoxE.new w no).keeps hk1 (by omega)
  have HM1 : Hid (Mac w1 m B V T M rs ds L S (up b X)) := hm1
  have HK1 : Hid (Keeps (fun j => j = m) w w1) := (Keeps.alloc (S := fun j => j = m) w _).trans hk1 (fun _ _ e => e)
  have hne : w.heap.size ≠ w1.heap.size := Nat.ne_of_lt HX1.out.lt
  have hlt1 := HX1.out.lt
  clear ho hm1 hk1 HPk
  unfold FaultV
  cases b with
  | true =>
    simp only [if_true]
    obtain ⟨W2, hW2⟩ : ∃ W2, w1.alloc (Obj.cells #[.int .i64 30, .int .u64 x] 57) = W2 := ⟨_, rfl⟩
    have HF2 : Hid (BoxF W2 w1.heap.size 30 x) := hW2 ▸ BoxF.new w1 30 x
    have HX2 : Hid (BoxE W2 w.heap.size no) := hW2 ▸ HX1.out.below ((Below.refl _ _).alloc (Nat.le_refl _) _)
    have HB2 : Hid (Below w1.heap.size w1 W2) := hW2 ▸ (Below.refl _ _).alloc (Nat.le_refl _) _
    obtain ⟨y0, y1, _, _⟩ := HF2.out.cells
    obtain ⟨x0, x1, x2, x3, x4⟩ := HX2.out.cells
    have f0 := HX2.out.frozen 0
    have f1 := HX2.out.frozen 1
    have f2 := HX2.out.frozen 2
    have f3 := HX2.out.frozen 3
    have f4 := HX2.out.frozen 4
    go_wp2_with fail
    obtain ⟨d0, d1, d2, d3, d4⟩ := (HX2.out.put no).cells
    refine (fun (h : bodyPost _ _ _ _ _ (putE W2 w.heap.size no)) => h) ?_
    refine bodyPost_ret (v := .tuple #[EntV no, .int .i64 42]) (by simp [results, Tryz.results79, go_sem, EntV, d0, d1, d2, d3, d4]) rfl ?_
    exact ⟨(no, 42), true, rfl, ⟨x, HOff.out, rfl⟩, (HM1.out.below HB2.out).keeps (putE_keeps _ _ _) (fun j hj e => by have := HM.out.mine_lt hj; omega), (HK1.out.trans (Keeps.of_below (S := fun _ => False) HB2.out) (fun _ _ h => h.elim)).trans (putE_keeps _ _ _) (fun i hi e => absurd e (by omega))⟩
  | false =>
    simp only [Bool.false_eq_true, if_false]
    obtain ⟨num, hnum⟩ : ∃ num, num = Pl.num 8 (rdTo M a 8 8) := ⟨_, rfl⟩
    rw [← hnum]
    have HNum : Hid (num = Pl.num 8 (rdTo M a 8 8)) := hnum
    have hlt : num < 18446744073709551616 := by
      rw [hnum]
      exact Pl.acc_lt (rdTo_small HM.out.held.2.2.2.2.1 _ _ _) 0 8
    clear hnum
    obtain ⟨W2, hW2⟩ : ∃ W2, w1.alloc (Obj.cells #[.int .i64 0, .int .u64 x] 57) = W2 := ⟨_, rfl⟩
    have HF2 : Hid (BoxF W2 w1.heap.size 0 x) := hW2 ▸ BoxF.new w1 0 x
    have HX2 : Hid (BoxE W2 w.heap.size no) := hW2 ▸ HX1.out.below ((Below.refl _ _).alloc (Nat.le_refl _) _)
    have HB2 : Hid (Below w1.heap.size w1 W2) := hW2 ▸ (Below.refl _ _).alloc (Nat.le_refl _) _
    obtain ⟨y0, y1, _, _⟩ := HF2.out.cells
    go_wp2_with fail
    refine (HEn.out num hlt _).mono ?_
    rintro e w2 ⟨rfl, hb2⟩
    have HX3 : Hid (BoxE w2 w.heap.size no) := HX2.out.below hb2
    have HB3 : Hid (Below W2.heap.size W2 w2) := hb2
    clear hb2
    obtain ⟨x0, x1, x2, x3, x4⟩ := HX3.out.cells
    have f0 := HX3.out.frozen 0
    have f1 := HX3.out.frozen 1
    have f2 := HX3.out.frozen 2
    have f3 := HX3.out.frozen 3
    have f4 := HX3.out.frozen 4
    obtain ⟨⟨⟨q0, q1, q2, q3, q4⟩, q5⟩, hq⟩ : ∃ q, q = entB num l := ⟨_, rfl⟩
    rw [← hq]
    unfold EntV
    go_wp2_with fail
    obtain ⟨d0, d1, d2, d3, d4⟩ := (HX3.out.put (q0, q1, q2, q3, q4)).cells
    refine (fun (h : bodyPost _ _ _ _ _ (putE w2 w.heap.size (q0, q1, q2, q3, q4))) => h) ?_
    refine bodyPost_ret (v := .tuple #[EntV (q0, q1, q2, q3, q4), .int .i64 q5]) (by simp [results, Tryz.results79, go_sem, EntV, d0, d1, d2, d3, d4]) rfl ?_
    refine ⟨((q0, q1, q2, q3, q4), q5), false, rfl, ⟨x, HOff.out, by rw [hq, HNum.out]; rfl⟩, ((HM1.out.below HB2.out).below HB3.out).keeps (putE_keeps _ _ _) (fun j hj e => by have := HM.out.mine_lt hj; omega), ((HK1.out.trans (Keeps.of_below (S := fun _ => False) HB2.out) (fun _ _ h => h.elim)).trans (Keeps.of_below (S := fun _ => False) HB3.out) (fun _ _ h => h.elim)).trans (putE_keeps _ _ _) (fun i hi e => absurd e (by omega))⟩
end Go.Proofs.YtlplbbnicfeoaaaGreat
