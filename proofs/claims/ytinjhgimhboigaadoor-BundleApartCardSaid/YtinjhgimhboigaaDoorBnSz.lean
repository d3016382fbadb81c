/- Bundle: Size. Own work. -/
import Derived.Test.YtinjhgimhboigaaDoorBnAll
namespace Go.Proofs.YtinjhgimhboigaaDoor
open Go.RowKit Bn
set_option linter.unusedVariables false
set_option linter.unusedSimpArgs false
/-- an image that comes in, by value -/
structure ImA (w : World) (im : List Value) (I : Im) : Prop where
  base : im[0]? = some (.int .u64 (I.base : Int)) ∧ I.base ≤ 18446744073709551615
  rams : ∃ v, im[1]? = some v ∧ RowG 2 rgE w v I.rams ∧ ∀ x ∈ I.rams, rgOk x
  devs : ∃ v, im[2]? = some v ∧ RowG 2 rgE w v I.devs ∧ ∀ x ∈ I.devs, rgOk x
  subs : ∃ v, im[3]? = some v ∧ RowG 6 tnE w v I.subs ∧ ∀ x ∈ I.subs, tnOk x
  ports : ∃ v, im[4]? = some v ∧ RowG 1 poE w v I.ports ∧ ∀ x ∈ I.ports, I64R x
  regs : ∃ v, im[5]? = some v ∧ RowG 4 gdE w v I.regs ∧ ∀ x ∈ I.regs, gdOk x
  chs : ∃ v, im[6]? = some v ∧ RowG 5 lkE w v I.chs ∧ ∀ x ∈ I.chs, lkOk x
  irqs : ∃ v, im[7]? = some v ∧ RowG 5 lkE w v I.irqs ∧ ∀ x ∈ I.irqs, lkOk x
  plans : ∃ v, im[8]? = some v ∧ PlG w v I.plans ∧ ∀ x ∈ I.plans, scOk x
  master : im[9]? = some (.int .i64 I.master) ∧ I64R I.master
  start : im[10]? = some (.int .i64 I.start) ∧ I64R I.start
  tabs : ∃ v, im[11]? = some v ∧ TbG w v I.tabs ∧ ∀ x ∈ I.tabs, tbOk x
  len : im.length = 12
  one : im.toArray.all (·.oneCell') = true
theorem ImA.below {w w' : World} {im : List Value} {I : Im} (h : ImA w im I) (hb : Below w.heap.size w w') : ImA w' im I := by
  obtain ⟨h1, ⟨v2, a2, b2, c2⟩, ⟨v3, a3, b3, c3⟩, ⟨v4, a4, b4, c4⟩, ⟨v5, a5, b5, c5⟩, ⟨v6, a6, b6, c6⟩, ⟨v7, a7, b7, c7⟩, ⟨v8, a8, b8, c8⟩, ⟨v9, a9, b9, c9⟩, h10, h11, ⟨v12, a12, b12, c12⟩, hl, ho⟩ := h
  exact ⟨h1, ⟨v2, a2, b2.below hb, c2⟩, ⟨v3, a3, b3.below hb, c3⟩, ⟨v4, a4, b4.below hb, c4⟩, ⟨v5, a5, b5.below hb, c5⟩, ⟨v6, a6, b6.below hb, c6⟩, ⟨v7, a7, b7.below hb, c7⟩, ⟨v8, a8, b8.below hb, c8⟩, ⟨v9, a9, b9.below hb, c9⟩, h10, h11, ⟨v12, a12, b12.below hb, c12⟩, hl, ho⟩
theorem ImA.g {w : World} {im : List Value} {I : Im} (h : ImA w im I) : ImG w.heap.size w im I := by
  have k : ∀ W, Fx w.heap.size w W → Below w.heap.size w W := fun W hW => hW.below (Nat.le_refl _)
  obtain ⟨h1, ⟨v2, a2, b2, c2⟩, ⟨v3, a3, b3, c3⟩, ⟨v4, a4, b4, c4⟩, ⟨v5, a5, b5, c5⟩, ⟨v6, a6, b6, c6⟩, ⟨v7, a7, b7, c7⟩, ⟨v8, a8, b8, c8⟩, ⟨v9, a9, b9, c9⟩, h10, h11, ⟨v12, a12, b12, c12⟩, hl, ho⟩ := h
  exact ⟨h1, ⟨v2, a2, fun W hW => b2.below (k W hW), c2⟩, ⟨v3, a3, fun W hW => b3.below (k W hW), c3⟩, ⟨v4, a4, fun W hW => b4.below (k W hW), c4⟩, ⟨v5, a5, fun W hW => b5.below (k W hW), c5⟩, ⟨v6, a6, fun W hW => b6.below (k W hW), c6⟩, ⟨v7, a7, fun W hW => b7.below (k W hW), c7⟩, ⟨v8, a8, fun W hW => b8.below (k W hW), c8⟩, ⟨v9, w, a9, b9, k, c9⟩, h10, h11, ⟨v12, a12, fun W hW => b12.below (k W hW), c12⟩⟩
def en0 : List Value := (List.replicate 9 [Value.int .i64 0, .int .i64 0, .int .i64 0, .int .i64 0, .int .u32 0]).flatten
theorem enN_zero (I : Im) : enN I 0 = en0 := rfl
theorem list12 {im : List Value} (h : im.length = 12) : ∃ a0 a1 a2 a3 a4 a5 a6 a7 a8 a9 b0 b1, im = [a0, a1, a2, a3, a4, a5, a6, a7, a8, a9, b0, b1] := by
  match im, h with
  | [a0, a1, a2, a3, a4, a5, a6, a7, a8, a9, b0, b1], _ => exact ⟨a0, a1, a2, a3, a4, a5, a6, a7, a8, a9, b0, b1, rfl⟩
set_option maxRecDepth 100000 in
theorem ly_build {im : List Value} (h : im.length = 12) (W : World) : (Instr.build 70 #[(0, .agg im.toArray)]).run Tryd.prog W = .ok (.agg (lyC im none 0 en0 0).toArray) W := by
  obtain ⟨a0, a1, a2, a3, a4, a5, a6, a7, a8, a9, b0, b1, rfl⟩ := list12 h
  exact run_build W _ _ _ (by kernel_rfl)
set_option maxRecDepth 100000 in
theorem ly_build2 {im : List Value} (h : im.length = 12) (p : Nat) (W : World) : (Instr.build 70 #[(0, .agg im.toArray), (1, .pointer (some ⟨p, 0, none⟩))]).run Tryd.prog W = .ok (.agg (lyC im (some p) 0 en0 0).toArray) W := by
  obtain ⟨a0, a1, a2, a3, a4, a5, a6, a7, a8, a9, b0, b1, rfl⟩ := list12 h
  exact run_build W _ _ _ (by kernel_rfl)
theorem info_im {im : List Value} (h : im.length = 12) : (Tryd.prog.info? 33).map (·.size) = some im.toArray.size := by
  rw [List.size_toArray, h]
  kernel_rfl
theorem wpList_lbuild {ops : Array Oper} {rest : List Oper} {oo : Oper} {a : Act} {w : World} {Q : Exit → Act → World → Prop} (hgd : oo.guard = none) (ty : TypeId) (parts : Array (Nat × Operand)) (ho : oo.op = .build ty parts) (vals : Array (Nat × Value)) (hv : (parts.map fun (i, x) => (i, a.eval x)) = vals) {V : Value} (hr : ∀ W, (Instr.build ty vals).run Tryd.prog W = .ok V W) (h : wpList Tryd.prog ops Q rest (a.put oo.dst V) w) : wpList Tryd.prog ops Q (oo :: rest) a w :=
  wpList_plain hgd fun K hK => by
    unfold Oper.wp execOp
    simp only [ho, Sem.run_bind, Sem.run_pure, Result.andThen_ok, hv, hr]
    exact hK _ _ h
/-- Size -/
def sizeF (I : Im) : Int × Int := if (stN I 9).2 ≠ 0 then (0, (stN I 9).2) else if 1024 < (stN I 9).1.length / 4096 then (0, 4) else (((stN I 9).1.length / 4096 : Nat), 0)
/-- where the layer begins -/
theorem st_begin {w : World} {im : List Value} {I : Im} (h : ImA w im I) {o : Option Nat} {W : World} {kb : Nat} (hb : W.heap[kb]? = some (.cells (lyC im o 0 en0 0).toArray 70 (0, 0))) (ho : ∀ p, o = some p → ∃ v, Wr W p v [] 0 w.heap.size ∧ p ≠ kb ∧ w.heap.size ≤ p) (hB : w.heap.size ≤ kb) (hw : Below w.heap.size w W) : Sx w.heap.size kb im o (enN I 0) w ([], 0) W :=
  ⟨hb, h.len, enN_len I 0, ho, hB, Fx.of_below hw, fun z hz => by cases hz⟩
set_option maxRecDepth 100000 in
set_option maxHeartbeats 8000000 in
theorem sizeX {w : World} {im : List Value} {I : Im} (h : ImA w im I) (hs : szI I ≤ 20000000000) : Calls Tryd.prog 9 #[.agg im.toArray] w fun e w' => e = .returned (.tuple #[.int .i64 (sizeF I).1, .int .i64 (sizeF I).2]) ∧ Below w.heap.size w w' := by
  have hlen := h.len
  have hb0 : (w.alloc (.cells im.toArray 33)).heap[w.heap.size]? = some (.cells im.toArray 33 (0, 0)) := heap_alloc_new w _
  have HZ0 := Lib.hid hb0
  have s1 : (w.alloc (.cells im.toArray 33)).heap.size = w.heap.size + 1 := by simp
  have hb1 : ((w.alloc (.cells im.toArray 33)).alloc (.cells (lyC im none 0 en0 0).toArray 70)).heap[w.heap.size + 1]? = some (.cells (lyC im none 0 en0 0).toArray 70 (0, 0)) := by
    have := heap_alloc_new (w.alloc (.cells im.toArray 33)) (.cells (lyC im none 0 en0 0).toArray 70)
    rwa [s1] at this
  have H0 := Lib.hid (st_begin h (o := none) hb1 (fun p hp => by cases hp) (Nat.le_succ _) (((Below.refl _ _).alloc (Nat.le_refl _) _).alloc (by rw [s1]; omega) _))
  have HB := Lib.hid (ly_build hlen)
  have HIn := Lib.hid (info_im hlen)
  have HC := Lib.hid (allX h.g H0.out hs)
  have HLn : Hid ((stN I 9).1.length ≤ 180000036864) := show _ ≤ _ by
    have h1 := stN_le I 9
    have h2 : 9 * (szI I + 4096) ≤ 9 * (20000000000 + 4096) := Nat.mul_le_mul (Nat.le_refl _) (by omega)
    omega
  clear h hs hb0 hb1 s1 H0
  obtain ⟨N, hN⟩ : ∃ N, (stN I 9).1.length = N := ⟨_, rfl⟩
  obtain ⟨y, hy⟩ : ∃ y, (stN I 9).2 = y := ⟨_, rfl⟩
  have HNz := Lib.hid hN
  have hl9 := HLn.out
  rw [hN] at hl9
  have hq : Int.tdiv (N : Int) 4096 = ((N / 4096 : Nat) : Int) := rfl
  have HSz : Hid (sizeF I = if y ≠ 0 then (0, y) else if 1024 < N / 4096 then (0, 4) else (((N / 4096 : Nat) : Int), 0)) := show _ = _ by rw [sizeF, hN, hy]
  rw [HSz.out]
  clear HSz
  obtain ⟨q, hq9⟩ : ∃ q, N / 4096 = q := ⟨_, rfl⟩
  have hqw : IntKind.i64.wrap (q : Int) = (q : Int) := by rw [IntKind.wrap_i64]; omega
  rw [hq9] at hq ⊢
  clear hq9
  have HY := Lib.hid hy
  by_cases hy0 : y = 0
  · subst hy0
    rw [if_neg (show ¬ ((0 : Int) ≠ 0) from fun h => h rfl)]
    by_cases hq1 : 1024 < q
    · have jq : (1024 : Int) < (q : Int) := by omega
      rw [if_pos hq1]
      go_enter Tryd.func9, Tryd.ntmps9
      go_wp2_with (first | (refine wpList_load_arr rfl 33 (.tmp 1) rfl (b := w.heap.size) (g := im.toArray) rfl HZ0.out Tryd.underlying33 rfl HIn.out ?_) | (refine wpList_lbuild rfl 70 #[(0, .tmp 6)] rfl #[(0, .agg im.toArray)] (by simp [Act.eval, Act.put]) (fun W => HB.out W) ?_))
      refine HC.out.mono ?_
      rintro e w1 ⟨rfl, h1⟩
      obtain ⟨c12, c13, c59⟩ := St.cells h1
      rw [HNz.out] at c13
      rw [HY.out] at c59
      have HB1 : Hid (Below w.heap.size w w1) := h1.fr.below (Nat.le_refl _)
      clear h1 HC HZ0 HB HIn
      go_wp2_with fail
      go_ret2
      exact ⟨rfl, HB1.out⟩
    · have jq : ¬ (1024 : Int) < (q : Int) := by omega
      rw [if_neg hq1]
      go_enter Tryd.func9, Tryd.ntmps9
      go_wp2_with (first | (refine wpList_load_arr rfl 33 (.tmp 1) rfl (b := w.heap.size) (g := im.toArray) rfl HZ0.out Tryd.underlying33 rfl HIn.out ?_) | (refine wpList_lbuild rfl 70 #[(0, .tmp 6)] rfl #[(0, .agg im.toArray)] (by simp [Act.eval, Act.put]) (fun W => HB.out W) ?_))
      refine HC.out.mono ?_
      rintro e w1 ⟨rfl, h1⟩
      obtain ⟨c12, c13, c59⟩ := St.cells h1
      rw [HNz.out] at c13
      rw [HY.out] at c59
      have HB1 : Hid (Below w.heap.size w w1) := h1.fr.below (Nat.le_refl _)
      clear h1 HC HZ0 HB HIn
      go_wp2_with fail
      go_ret2
      exact ⟨rfl, HB1.out⟩
  · rw [if_pos hy0]
    go_enter Tryd.func9, Tryd.ntmps9
    go_wp2_with (first | (refine wpList_load_arr rfl 33 (.tmp 1) rfl (b := w.heap.size) (g := im.toArray) rfl HZ0.out Tryd.underlying33 rfl HIn.out ?_) | (refine wpList_lbuild rfl 70 #[(0, .tmp 6)] rfl #[(0, .agg im.toArray)] (by simp [Act.eval, Act.put]) (fun W => HB.out W) ?_))
    refine HC.out.mono ?_
    rintro e w1 ⟨rfl, h1⟩
    obtain ⟨c12, c13, c59⟩ := St.cells h1
    rw [HNz.out] at c13
    rw [HY.out] at c59
    have HB1 : Hid (Below w.heap.size w w1) := h1.fr.below (Nat.le_refl _)
    clear h1 HC HZ0 HB HIn
    go_wp2_with fail
    go_region_held3 (fun w' => w'.cell? ⟨w.heap.size + 1, 59, none⟩ = some (.int .i64 y)) (go_keep) (fail)
    all_goals
      go_wp2_with fail
      go_ret2
      exact ⟨rfl, HB1.out.drew⟩
end Go.Proofs.YtinjhgimhboigaaDoor
