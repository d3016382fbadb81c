import Derived.Test.YtmfkggngjeolcaaGreatDoorPk11
import Derived.Test.YtmfkggngjeolcaaGreatDoorPk06
import Derived.Deep.DeepCutAuto
import Derived.Deep.CutBlock
/- Bundle: Size. Own work. -/
namespace Go.Proofs.YtmfkggngjeolcaaGreatDoor
open Go.RowKit Bn
set_option linter.unusedVariables false
set_option linter.unusedSimpArgs false
/-- an image that comes in, by value -/
structure ImA (w : World) (im : List Value) (I : Im) : Prop where
  base : im[0]? = some (.int .u64 (I.base : Int)) ∧ I.base ≤ 18446744073709551615
  rams : ∃ v, im[1]? = some v ∧ RowG 2 rgE w v I.rams ∧ ∀ x ∈ I.rams, rgOk x
  devs : ∃ v, im[2]? = some v ∧ RowG 2 rgE w v I.devs ∧ ∀ x ∈ I.devs, rgOk x
  subs : ∃ v, im[3]? = some v ∧ RowG 6 tnE w v I.subs ∧ ∀ x ∈ I.subs, tnOk x
  ports : ∃ v, im[4]? = some v ∧ RowG 1 poE w v I.ports ∧ ∀ x ∈ I.ports, I64R x
  regs : ∃ v, im[5]? = some v ∧ RowG 4 gdE w v I.regs ∧ ∀ x ∈ I.regs, gdOk x
  chs : ∃ v, im[6]? = some v ∧ RowG 5 lkE w v I.chs ∧ ∀ x ∈ I.chs, lkOk x
  irqs : ∃ v, im[7]? = some v ∧ RowG 5 lkE w v I.irqs ∧ ∀ x ∈ I.irqs, lkOk x
  plans : ∃ v, im[8]? = some v ∧ PlG w v I.plans ∧ ∀ x ∈ I.plans, scOk x
  master : im[9]? = some (.int .i64 I.master) ∧ I64R I.master
  start : im[10]? = some (.int .i64 I.start) ∧ I64R I.start
  tabs : ∃ v, im[11]? = some v ∧ TbG w v I.tabs ∧ ∀ x ∈ I.tabs, tbOk x
  len : im.length = 12
  one : im.toArray.all (·.oneCell') = true
theorem ImA.below {w w' : World} {im : List Value} {I : Im} (h : ImA w im I) (hb : Below w.heap.size w w') : ImA w' im I := by
  obtain ⟨h1, ⟨v2, a2, b2, c2⟩, ⟨v3, a3, b3, c3⟩, ⟨v4, a4, b4, c4⟩, ⟨v5, a5, b5, c5⟩, ⟨v6, a6, b6, c6⟩, ⟨v7, a7, b7, c7⟩, ⟨v8, a8, b8, c8⟩, ⟨v9, a9, b9, c9⟩, h10, h11, ⟨v12, a12, b12, c12⟩, hl, ho⟩ := h
  exact ⟨h1, ⟨v2, a2, b2.below hb, c2⟩, ⟨v3, a3, b3.below hb, c3⟩, ⟨v4, a4, b4.below hb, c4⟩, ⟨v5, a5, b5.below hb, c5⟩, ⟨v6, a6, b6.below hb, c6⟩, ⟨v7, a7, b7.below hb, c7⟩, ⟨v8, a8, b8.below hb, c8⟩, ⟨v9, a9, b9.below hb, c9⟩, h10, h11, ⟨v12, a12, b12.below hb, c12⟩, hl, ho⟩
theorem ImA.g {w : World} {im : List Value} {I : Im} (h : ImA w im I) : ImG w.heap.size w im I := by
  have k : ∀ W, Fx w.heap.size w W → Below w.heap.size w W := fun W hW => hW.below (Nat.le_refl _)
  obtain ⟨h1, ⟨v2, a2, b2, c2⟩, ⟨v3, a3, b3, c3⟩, ⟨v4, a4, b4, c4⟩, ⟨v5, a5, b5, c5⟩, ⟨v6, a6, b6, c6⟩, ⟨v7, a7, b7, c7⟩, ⟨v8, a8, b8, c8⟩, ⟨v9, a9, b9, c9⟩, h10, h11, ⟨v12, a12, b12, c12⟩, hl, ho⟩ := h
  exact ⟨h1, ⟨v2, a2, fun W hW => b2.below (k W hW), c2⟩, ⟨v3, a3, fun W hW => b3.below (k W hW), c3⟩, ⟨v4, a4, fun W hW => b4.below (k W hW), c4⟩, ⟨v5, a5, fun W hW => b5.below (k W hW), c5⟩, ⟨v6, a6, fun W hW => b6.below (k W hW), c6⟩, ⟨v7, a7, fun W hW => b7.below (k W hW), c7⟩, ⟨v8, a8, fun W hW => b8.below (k W hW), c8⟩, ⟨v9, w, a9, b9, k, c9⟩, h10, h11, ⟨v12, a12, fun W hW => b12.below (k W hW), c12⟩⟩
def en0 : List Value := (List.replicate 9 [Value.int .i64 0, .int .i64 0, .int .i64 0, .int .i64 0, .int .u32 0]).flatten
theorem list12 {im : List Value} (h : im.length = 12) : ∃ a0 a1 a2 a3 a4 a5 a6 a7 a8 a9 b0 b1, im = [a0, a1, a2, a3, a4, a5, a6, a7, a8, a9, b0, b1] := by
  match im, h with
  | [a0, a1, a2, a3, a4, a5, a6, a7, a8, a9, b0, b1], _ => exact ⟨a0, a1, a2, a3, a4, a5, a6, a7, a8, a9, b0, b1, rfl⟩
set_option maxRecDepth 100000 in
theorem ly_build {im : List Value} (h : im.length = 12) (W : World) : (Instr.build 91 #[(0, .agg im.toArray)]).run Tryz.prog W = .ok (.agg (lyC im none 0 en0 0).toArray) W := by
  obtain ⟨a0, a1, a2, a3, a4, a5, a6, a7, a8, a9, b0, b1, rfl⟩ := list12 h
  exact run_build W _ _ _ (by kernel_rfl)
set_option maxRecDepth 100000 in
theorem ly_build2 {im : List Value} (h : im.length = 12) (p : Nat) (W : World) : (Instr.build 91 #[(0, .agg im.toArray), (1, .pointer (some ⟨p, 0, none⟩))]).run Tryz.prog W = .ok (.agg (lyC im (some p) 0 en0 0).toArray) W := by
  obtain ⟨a0, a1, a2, a3, a4, a5, a6, a7, a8, a9, b0, b1, rfl⟩ := list12 h
  exact run_build W _ _ _ (by kernel_rfl)
theorem info_im {im : List Value} (h : im.length = 12) : (Tryz.prog.info? 33).map (·.size) = some im.toArray.size := by
  rw [List.size_toArray, h]
  kernel_rfl
theorem wpList_lbuild {ops : Array Oper} {rest : List Oper} {oo : Oper} {a : Act} {w : World} {Q : Exit → Act → World → Prop} (hgd : oo.guard = none) (ty : TypeId) (parts : Array (Nat × Operand)) (ho : oo.op = .build ty parts) (vals : Array (Nat × Value)) (hv : (parts.map fun (i, x) => (i, a.eval x)) = vals) {V : Value} (hr : ∀ W, (Instr.build ty vals).run Tryz.prog W = .ok V W) (h : wpList Tryz.prog ops Q rest (a.put oo.dst V) w) : wpList Tryz.prog ops Q (oo :: rest) a w :=
  wpList_plain hgd fun K hK => by
    unfold Oper.wp execOp
    simp only [ho, Sem.run_bind, Sem.run_pure, Result.andThen_ok, hv, hr]
    exact hK _ _ h
/-- Size -/
def sizeF (I : Im) : Int × Int := if (stN I 9).2 ≠ 0 then (0, (stN I 9).2) else if 1024 < (stN I 9).1.length / 4096 then (0, 4) else (((stN I 9).1.length / 4096 : Nat), 0)
/-- where the layer begins -/
theorem st_begin {w : World} {im : List Value} {I : Im} (h : ImA w im I) {o : Option Nat} {W : World} {kb : Nat} (hb : W.heap[kb]? = some (.cells (lyC im o 0 en0 0).toArray 91 (0, 0))) (ho : ∀ p, o = some p → ∃ v, Wr W p v [] 0 w.heap.size ∧ p ≠ kb ∧ w.heap.size ≤ p) (hB : w.heap.size ≤ kb) (hw : Below w.heap.size w W) : Sx w.heap.size kb im o (enN I 0) w ([], 0) W :=
  ⟨hb, h.len, enN_len I 0, ho, hB, Fx.of_below hw, fun z hz => by cases hz⟩
set_option maxRecDepth 100000 in
set_option maxHeartbeats 8000000 in
theorem sizeX {w : World} {im : List Value} {I : Im} (h : ImA w im I) (hs : szI I ≤ 20000000000) : Calls Tryz.prog 18 #[.agg im.toArray] w fun e w' => e = .returned (.tuple #[.int .i64 (sizeF I).1, .int .i64 (sizeF I).2]) ∧ Below w.heap.size w w' := by
  have hlen := h.len
  have hb0 : (w.alloc (.cells im.toArray 33)).heap[w.heap.size]? = some (.cells im.toArray 33 (0, 0)) := heap_alloc_new w _
  have HZ0 := Lib.hid hb0
  have s1 : (w.alloc (.cells im.toArray 33)).heap.size = w.heap.size + 1 := by simp
  have hb1 : ((w.alloc (.cells im.toArray 33)).alloc (.cells (lyC im none 0 en0 0).toArray 91)).heap[w.heap.size + 1]? = some (.cells (lyC im none 0 en0 0).toArray 91 (0, 0)) := by
    have := heap_alloc_new (w.alloc (.cells im.toArray 33)) (.cells (lyC im none 0 en0 0).toArray 91)
    rwa [s1] at this
  have H0 := Lib.hid (st_begin h (o := none) hb1 (fun p hp => by cases hp) (Nat.le_succ _) (((Below.refl _ _).alloc (Nat.le_refl _) _).alloc (by rw [s1]; omega) _))
  have HB := Lib.hid (ly_build hlen)
  have HIn := Lib.hid (info_im hlen)
  have HC := Lib.hid (allX h.g H0.out hs)
  have HLn : Hid ((stN I 9).1.length ≤ 180000036864) := show _ ≤ _ by
    have h1 := stN_le I 9
    have h2 : 9 * (szI I + 4096) ≤ 9 * (20000000000 + 4096) := Nat.mul_le_mul (Nat.le_refl _) (by omega)
    omega
  clear h hs hb0 hb1 s1 H0
  obtain ⟨N, hN⟩ : ∃ N, (stN I 9).1.length = N := ⟨_, rfl⟩
  obtain ⟨y, hy⟩ : ∃ y, (stN I 9).2 = y := ⟨_, rfl⟩
  have HNz := Lib.hid hN
  have hl9 := HLn.out
  rw [hN] at hl9
  have hq : Int.tdiv (N : Int) 4096 = ((N / 4096 : Nat) : Int) := rfl
  have HSz : Hid (sizeF I = if y ≠ 0 then (0, y) else if 1024 < N / 4096 then (0, 4) else (((N / 4096 : Nat) : Int), 0)) := show _ = _ by rw [sizeF, hN, hy]
  rw [HSz.out]
  clear HSz
  obtain ⟨q, hq9⟩ : ∃ q, N / 4096 = q := ⟨_, rfl⟩
  have hqw : IntKind.i64.wrap (q : Int) = (q : Int) := by rw [IntKind.wrap_i64]; omega
  rw [hq9] at hq ⊢
  clear hq9
  have HY := Lib.hid hy
  by_cases hy0 : y = 0
  · subst hy0
    rw [if_neg (show ¬ ((0 : Int) ≠ 0) from fun h => h rfl)]
    by_cases hq1 : 1024 < q
    · have jq : (1024 : Int) < (q : Int) := by omega
      rw [if_pos hq1]
      go_enter Tryz.func18, Tryz.ntmps18
      go_wp2_with (first | (refine wpList_load_arr rfl 33 (.tmp 1) rfl (b := w.heap.size) (g := im.toArray) rfl HZ0.out Tryz.underlying33 rfl HIn.out ?_) | (refine wpList_lbuild rfl 91 #[(0, .tmp 6)] rfl #[(0, .agg im.toArray)] (by simp [Act.eval, Act.put]) (fun W => HB.out W) ?_))
      refine HC.out.mono ?_
      rintro e w1 ⟨rfl, h1⟩
      obtain ⟨c12, c13, c59⟩ := St.cells h1
      rw [HNz.out] at c13
      rw [HY.out] at c59
      have HB1 : Hid (Below w.heap.size w w1) := h1.fr.below (Nat.le_refl _)
      clear h1 HC HZ0 HB HIn
      go_wp2_with fail
      go_ret2
      exact ⟨rfl, HB1.out⟩
    · have jq : ¬ (1024 : Int) < (q : Int) := by omega
      rw [if_neg hq1]
      go_enter Tryz.func18, Tryz.ntmps18
      go_wp2_with (first | (refine wpList_load_arr rfl 33 (.tmp 1) rfl (b := w.heap.size) (g := im.toArray) rfl HZ0.out Tryz.underlying33 rfl HIn.out ?_) | (refine wpList_lbuild rfl 91 #[(0, .tmp 6)] rfl #[(0, .agg im.toArray)] (by simp [Act.eval, Act.put]) (fun W => HB.out W) ?_))
      refine HC.out.mono ?_
      rintro e w1 ⟨rfl, h1⟩
      obtain ⟨c12, c13, c59⟩ := St.cells h1
      rw [HNz.out] at c13
      rw [HY.out] at c59
      have HB1 : Hid (Below w.heap.size w w1) := h1.fr.below (Nat.le_refl _)
      clear h1 HC HZ0 HB HIn
      go_wp2_with fail
      go_ret2
      exact ⟨rfl, HB1.out⟩
  · rw [if_pos hy0]
    go_enter Tryz.func18, Tryz.ntmps18
    go_wp2_with (first | (refine wpList_load_arr rfl 33 (.tmp 1) rfl (b := w.heap.size) (g := im.toArray) rfl HZ0.out Tryz.underlying33 rfl HIn.out ?_) | (refine wpList_lbuild rfl 91 #[(0, .tmp 6)] rfl #[(0, .agg im.toArray)] (by simp [Act.eval, Act.put]) (fun W => HB.out W) ?_))
    refine HC.out.mono ?_
    rintro e w1 ⟨rfl, h1⟩
    obtain ⟨c12, c13, c59⟩ := St.cells h1
    rw [HNz.out] at c13
    rw [HY.out] at c59
    have HB1 : Hid (Below w.heap.size w w1) := h1.fr.below (Nat.le_refl _)
    clear h1 HC HZ0 HB HIn
    go_wp2_with fail
    go_region_held3 (fun w' => w'.cell? ⟨w.heap.size + 1, 59, none⟩ = some (.int .i64 y)) (go_keep) (fail)
    all_goals
      go_wp2_with fail
      go_ret2
      exact ⟨rfl, HB1.out.drew⟩
end Go.Proofs.YtmfkggngjeolcaaGreatDoor
/- Bundle: an entry of the directory: end, of, lay. Own work. -/
namespace Go.Proofs.YtmfkggngjeolcaaGreatDoor
open Go.RowKit Bn
set_option linter.unusedVariables false
set_option linter.unusedSimpArgs false
def entA (k f l : Nat) (c : Int) : Array Value := #[.int .i64 (k : Int), .int .i64 0, .int .i64 (f : Int), .int .i64 (l : Int), .int .u32 c]
set_option maxRecDepth 100000 in
set_option maxHeartbeats 4000000 in
theorem endX {k f l : Nat} {c : Int} (hf : f ≤ 1099511627776) (hl : l ≤ 1099511627776) (w : World) : Calls Tryz.prog 104 #[.agg (entA k f l c)] w fun e w' => e = .returned (.int .i64 ((f + l : Nat) : Int)) ∧ Below w.heap.size w w' := by
  have hw : IntKind.i64.wrap ((f : Int) + (l : Int)) = ((f + l : Nat) : Int) := by rw [IntKind.wrap_i64]; omega
  have HB : Hid (Below w.heap.size w (w.alloc (.cells (entA k f l c) 88))) := (Below.refl _ _).alloc (Nat.le_refl _) _
  unfold entA at *
  go_enter Tryz.func104, Tryz.ntmps104
  go_wp2_with fail
  go_ret
  exact ⟨rfl, HB.out⟩
set_option maxRecDepth 100000 in
set_option maxHeartbeats 4000000 in
theorem ofX {k f l g n cap : Nat} {c : Int} (hfl : f + l ≤ n) (hn : n ≤ cap) (hc : cap ≤ 1099511627776) (w : World) : Calls Tryz.prog 64 #[.agg (entA k f l c), .slice (some ⟨g, 0, none⟩) n cap] w fun e w' => ∃ ad, e = .returned (.slice (some ⟨g, ad, none⟩) l (cap - f)) ∧ (ad = f ∨ l = 0) ∧ Below w.heap.size w w' := by
  have HB : Hid (Below w.heap.size w (w.alloc (.cells (entA k f l c) 88))) := (Below.refl _ _).alloc (Nat.le_refl _) _
  obtain ⟨W0, hW0⟩ : ∃ W0, w.alloc (.cells (entA k f l c) 88) = W0 := ⟨_, rfl⟩
  have hb : W0.heap[w.heap.size]? = some (.cells (entA k f l c) 88 (0, 0)) := hW0 ▸ heap_alloc_new w _
  have HCell : Hid (∀ W, Below W0.heap.size W0 W → W.cell? ⟨w.heap.size, 0, none⟩ = some (.int .i64 (k : Int)) ∧ W.cell? ⟨w.heap.size, 1, none⟩ = some (.int .i64 0) ∧ W.cell? ⟨w.heap.size, 2, none⟩ = some (.int .i64 (f : Int)) ∧ W.cell? ⟨w.heap.size, 3, none⟩ = some (.int .i64 (l : Int)) ∧ W.cell? ⟨w.heap.size, 4, none⟩ = some (.int .u32 c)) := fun W hW => by
    have h2 := (hW.block w.heap.size (Array.getElem?_eq_some_iff.1 hb).1).trans hb
    refine ⟨?_, ?_, ?_, ?_, ?_⟩ <;> (rw [cell_of_row _ _ _ _ _ _ h2]; rfl)
  rw [hW0] at HB
  have HE : Hid (Calls Tryz.prog 104 #[.agg (entA k f l c)] W0.drew fun e w' => e = .returned (.int .i64 ((f + l : Nat) : Int)) ∧ (w'.cell? ⟨w.heap.size, 0, none⟩ = some (.int .i64 (k : Int)) ∧ w'.cell? ⟨w.heap.size, 1, none⟩ = some (.int .i64 0) ∧ w'.cell? ⟨w.heap.size, 2, none⟩ = some (.int .i64 (f : Int)) ∧ w'.cell? ⟨w.heap.size, 3, none⟩ = some (.int .i64 (l : Int)) ∧ w'.cell? ⟨w.heap.size, 4, none⟩ = some (.int .u32 c)) ∧ Hid (Below w.heap.size w w')) := (endX (by omega) (by omega) W0.drew).mono (fun e w' h => by
    have hb0 : Below W0.heap.size W0 W0.drew := ⟨rfl, rfl, rfl, Nat.le_refl _, fun _ _ => rfl⟩
    have hb2 : Below W0.heap.size W0 w' := hb0.trans h.2
    exact ⟨h.1, HCell.out _ hb2, HB.out.trans (hb2.mono HB.out.size)⟩)
  have j1 : (f : Int) ≤ ((f + l : Nat) : Int) := by omega
  have j2 : ((f + l : Nat) : Int) ≤ (n : Int) := by omega
  have j3 : ((f + l : Nat) : Int) ≤ (cap : Int) := by omega
  have j4 : f + l ≤ cap := by omega
  have j5 : f + l - f = l := by omega
  have hS := HCell.out W0.drew ⟨rfl, rfl, rfl, Nat.le_refl _, fun _ _ => rfl⟩
  obtain ⟨m, hm⟩ : ∃ m, f + l = m := ⟨_, rfl⟩
  rw [hm] at HE j1 j2 j3 j4 j5
  have hm9 : m - f = l := j5
  by_cases hcf : cap - f = 0
  · have hl0 : Hid (l = 0) := show _ = _ by omega
    unfold entA at *
    go_enter Tryz.func64, Tryz.ntmps64
    go_wp2_with fail
    clear hW0 hb
    go_region_held3 (fun w' => w'.cell? ⟨w.heap.size, 0, none⟩ = some (.int .i64 (k : Int)) ∧ w'.cell? ⟨w.heap.size, 1, none⟩ = some (.int .i64 0) ∧ w'.cell? ⟨w.heap.size, 2, none⟩ = some (.int .i64 (f : Int)) ∧ w'.cell? ⟨w.heap.size, 3, none⟩ = some (.int .i64 (l : Int)) ∧ w'.cell? ⟨w.heap.size, 4, none⟩ = some (.int .u32 c)) (go_keep) (first | (go_at_call 104; refine HE.out.mono ?_; rintro e w5 ⟨rfl, ⟨k0, k1, k2, k3, k4⟩, H5⟩))
    all_goals
      go_wp2_with fail
      go_ret
      exact ⟨0, by first | rfl | (rw [Nat.sub_self]; rfl) | (rw [hcf]; rfl), .inr hl0.out, H5.out⟩
  · have hcf1 : 0 < cap - f := by omega
    unfold entA at *
    go_enter Tryz.func64, Tryz.ntmps64
    go_wp2_with fail
    clear hW0 hb
    go_region_held3 (fun w' => w'.cell? ⟨w.heap.size, 0, none⟩ = some (.int .i64 (k : Int)) ∧ w'.cell? ⟨w.heap.size, 1, none⟩ = some (.int .i64 0) ∧ w'.cell? ⟨w.heap.size, 2, none⟩ = some (.int .i64 (f : Int)) ∧ w'.cell? ⟨w.heap.size, 3, none⟩ = some (.int .i64 (l : Int)) ∧ w'.cell? ⟨w.heap.size, 4, none⟩ = some (.int .u32 c)) (go_keep) (first | (go_at_call 104; refine HE.out.mono ?_; rintro e w5 ⟨rfl, ⟨k0, k1, k2, k3, k4⟩, H5⟩))
    all_goals
      go_wp2_with fail
      go_ret
      exact ⟨f, by rw [← hm9]; rfl, .inl rfl, H5.out⟩
/-- the bytes of an entry -/
def entB (k f l c : Nat) : List Nat := Pl.le 2 k ++ Pl.le 2 0 ++ Pl.le 4 f ++ Pl.le 4 l ++ Pl.le 4 c
theorem entB_len (k f l c : Nat) : (entB k f l c).length = 16 := by simp [entB, Pl.le_length]
/-- what laying bytes may write: the Writer, rows of bytes from base on -/
def WkS (base p : Nat) (w : World) (q : Nat) : Prop := q = p ∨ base ≤ q ∧ ∃ cur, w.heap[q]? = some (.cells cur 5 (0, 0))
def Wk (base p : Nat) (w w' : World) : Prop := Keeps (WkS base p w) w w'
theorem Wk.refl (base p : Nat) (w : World) : Wk base p w w := Keeps.refl _ _
theorem Wk.trans {base p : Nat} {a b c : World} (h : Wk base p a b) (k : Wk base p b c) : Wk base p a c := by
  refine ⟨k.os.trans h.os, k.tape.trans h.tape, k.output.trans h.output, Nat.le_trans h.size k.size, fun i hi hn => ?_⟩
  have e := h.block i hi hn
  refine (k.block i (Nat.lt_of_lt_of_le hi h.size) (fun hs => hn ?_)).trans e
  rcases hs with hs | ⟨h0, cur, hc⟩
  · exact .inl hs
  · exact .inr ⟨h0, cur, e.symm.trans hc⟩
theorem Wk.of_below {base p : Nat} {w w' : World} (h : Below w.heap.size w w') : Wk base p w w' := Keeps.of_below h
theorem Wk.of_foot {base p : Nat} {w w' : World} {v : Value} {zs : List Nat} {why : Int} (h : Wr w p v zs why base) (k : Keeps (Foot p v) w w') : Wk base p w w' := Keeps.mono k (fun i _ e => by
  rcases e with e | e
  · exact .inl e
  · refine .inr ⟨(h.2.1.lt i e).1, ?_⟩
    rcases h.2.1.2 with ⟨rfl, _⟩ | ⟨g, cap, cur, rfl, _, hg, _⟩
    · cases e
    · cases e
      exact ⟨_, hg⟩)
theorem Wk.below {base p : Nat} {w w' : World} (h : Wk base p w w') (hp : base ≤ p) (hb : base ≤ w.heap.size) : Below base w w' := Keeps.below h hb (fun k _ e => by
  rcases e with e | e
  · omega
  · exact e.1)
/-- a block of another type than bytes, and not the Writer, stays -/
theorem Wk.block' {base p : Nat} {w w' : World} (h : Wk base p w w') {t : TypeId} {g : Nat} {cur : Array Value} (hg : w.heap[g]? = some (.cells cur t (0, 0))) (ht : t ≠ 5) (hp : g ≠ p) : w'.heap[g]? = some (.cells cur t (0, 0)) := (Keeps.block h g (Array.getElem?_eq_some_iff.1 hg).1 (by
  rintro (e | ⟨_, c, hc⟩)
  · exact hp e
  · rw [hg] at hc
    simp at hc
    exact ht hc.2)).trans hg
set_option maxRecDepth 100000 in
set_option maxHeartbeats 8000000 in
theorem elayX {k f l c p base : Nat} {v : Value} {zs : List Nat} {w : World} (h : Wr w p v zs 0 base) (hk : k ≤ 65535) (hf : f ≤ 4294967295) (hl : l ≤ 4294967295) (hc : c ≤ 4294967295) (hz : zs.length ≤ 100000) (hb : base ≤ w.heap.size) : Calls Tryz.prog 65 #[.agg (entA k f l (c : Int)), .pointer (some ⟨p, 0, none⟩)] w fun e w' => e = .returned (.tuple #[]) ∧ ∃ v', Wr w' p v' (zs ++ entB k f l c) 0 base ∧ Wk base p w w' := by
  have hj0 : IntKind.u16.wrap (k : Int) = (k : Int) := by rw [IntKind.wrap_u16]; omega
  have hj1 : IntKind.u16.wrap 0 = 0 := by rw [IntKind.wrap_u16]; omega
  have hj2 : IntKind.u32.wrap (f : Int) = (f : Int) := by rw [IntKind.wrap_u32]; omega
  have hj3 : IntKind.u32.wrap (l : Int) = (l : Int) := by rw [IntKind.wrap_u32]; omega
  have hpl := h.lt
  obtain ⟨W0, hW0⟩ : ∃ W0, w.alloc (.cells (entA k f l (c : Int)) 88) = W0 := ⟨_, rfl⟩
  have hbl : Below w.heap.size w W0 := hW0 ▸ (Below.refl _ _).alloc (Nat.le_refl _) _
  have hx0 : W0.heap[w.heap.size]? = some (.cells (entA k f l (c : Int)) 88 (0, 0)) := hW0 ▸ heap_alloc_new w _
  have HBx : Hid (∀ W, Wk base p W0 W → W.cell? ⟨w.heap.size, 0, none⟩ = some (.int .i64 (k : Int)) ∧ W.cell? ⟨w.heap.size, 1, none⟩ = some (.int .i64 0) ∧ W.cell? ⟨w.heap.size, 2, none⟩ = some (.int .i64 (f : Int)) ∧ W.cell? ⟨w.heap.size, 3, none⟩ = some (.int .i64 (l : Int)) ∧ W.cell? ⟨w.heap.size, 4, none⟩ = some (.int .u32 (c : Int))) := fun W hW => by
    have h2 := hW.block' hx0 (by decide) (by omega)
    refine ⟨?_, ?_, ?_, ?_, ?_⟩ <;> (rw [cell_of_row _ _ _ _ _ _ h2]; rfl)
  have HW0 : Hid (Wr W0 p v zs 0 base) := ⟨(hbl.block p hpl).trans h.1, h.2.1.below hbl, h.2.2⟩
  have HKw : Hid (Wk base p w W0) := Wk.of_below hbl
  have HZ : Hid (zs.length ≤ 100000) := hz
  have HB0 : Hid (base ≤ W0.heap.size) := Nat.le_trans hb hbl.size
  obtain ⟨d0, d1, d2, d3, d4⟩ := HBx.out W0 (Wk.refl _ _ _)
  clear h hz hb hbl hx0
  unfold entA at *
  go_enter Tryz.func65, Tryz.ntmps65
  go_wp2_with fail
  clear hW0
  refine (put_u16 (n := k) HW0.out hk (by (try simp only [List.length_append, Pl.le_length]); have := HZ.out; omega) HB0.out).mono ?_
  rintro e w1 ⟨rfl, v1, hv1, hk1, _⟩
  have HW1 := Lib.hid hv1
  have HK1 : Hid (Wk base p W0 w1) := Wk.of_foot HW0.out hk1
  clear d0 d1 d2 d3 d4
  obtain ⟨d0, d1, d2, d3, d4⟩ := HBx.out w1 HK1.out
  clear hv1 hk1 HW0
  go_wp2_with fail
  refine (put_u16 (n := 0) HW1.out (Nat.zero_le _) (by (try simp only [List.length_append, Pl.le_length]); have := HZ.out; omega) (Nat.le_trans HB0.out HK1.out.size)).mono ?_
  rintro e w2 ⟨rfl, v2, hv2, hk2, _⟩
  have HW2 := Lib.hid hv2
  have HK2 : Hid (Wk base p W0 w2) := HK1.out.trans (Wk.of_foot HW1.out hk2)
  clear d0 d1 d2 d3 d4
  obtain ⟨d0, d1, d2, d3, d4⟩ := HBx.out w2 HK2.out
  clear hv2 hk2 HW1
  go_wp2_with fail
  refine (put_u32 (n := f) HW2.out hf (by (try simp only [List.length_append, Pl.le_length]); have := HZ.out; omega) (Nat.le_trans HB0.out HK2.out.size)).mono ?_
  rintro e w3 ⟨rfl, v3, hv3, hk3, _⟩
  have HW3 := Lib.hid hv3
  have HK3 : Hid (Wk base p W0 w3) := HK2.out.trans (Wk.of_foot HW2.out hk3)
  clear d0 d1 d2 d3 d4
  obtain ⟨d0, d1, d2, d3, d4⟩ := HBx.out w3 HK3.out
  clear hv3 hk3 HW2
  go_wp2_with fail
  refine (put_u32 (n := l) HW3.out hl (by (try simp only [List.length_append, Pl.le_length]); have := HZ.out; omega) (Nat.le_trans HB0.out HK3.out.size)).mono ?_
  rintro e w4 ⟨rfl, v4, hv4, hk4, _⟩
  have HW4 := Lib.hid hv4
  have HK4 : Hid (Wk base p W0 w4) := HK3.out.trans (Wk.of_foot HW3.out hk4)
  clear d0 d1 d2 d3 d4
  obtain ⟨d0, d1, d2, d3, d4⟩ := HBx.out w4 HK4.out
  clear hv4 hk4 HW3
  go_wp2_with fail
  refine (put_u32 (n := c) HW4.out hc (by (try simp only [List.length_append, Pl.le_length]); have := HZ.out; omega) (Nat.le_trans HB0.out HK4.out.size)).mono ?_
  rintro e w5 ⟨rfl, v5, hv5, hk5, _⟩
  have HW5 := Lib.hid hv5
  have HK5 : Hid (Wk base p W0 w5) := HK4.out.trans (Wk.of_foot HW4.out hk5)
  clear d0 d1 d2 d3 d4
  clear hv5 hk5 HW4
  go_wp2_with fail
  go_end0
  refine ⟨rfl, v5, ?_, HKw.out.trans HK5.out⟩
  have h9 := HW5.out
  unfold entB
  simp only [List.append_assoc] at h9 ⊢
  exact h9
end Go.Proofs.YtmfkggngjeolcaaGreatDoor
/- Bundle: headed. Own work. -/
namespace Go.Proofs.YtmfkggngjeolcaaGreatDoor
open Go.RowKit Bn
set_option linter.unusedVariables false
set_option linter.unusedSimpArgs false
theorem push_modify (a : Array Obj) (x : Obj) (f : Obj → Obj) : (a.push x).modify a.size f = a.push (f x) := by
  apply Array.ext
  · simp
  · intro i h1 h2
    simp only [Array.getElem_modify, Array.getElem_push]
    by_cases h : a.size = i
    · subst h
      simp
    · have hi : i < a.size := by simp at h1; omega
      simp [h, hi]
/-- []byte of a constant -/
theorem convert_lit (w : World) (L : List Nat) (cs : Array Value) (hcs : cs.size = L.length) : (convert 43 43 (.slice (some ⟨w.heap.size, 0, none⟩) L.length L.length)).run Tryz.prog (w.alloc (.cells cs 5)) = .ok (.slice (some ⟨w.heap.size, 0, none⟩) L.length L.length) (w.alloc (.cells cs 5 (L.length, L.length + 1))) := by
  have hh : (w.alloc (.cells cs 5)).heap[w.heap.size]? = some (.cells cs 5) := heap_alloc_new w _
  have hs : (w.alloc (.cells cs 5)).shape? w.heap.size = some (5, L.length) := by
    unfold World.shape?
    rw [hh]
    simp [hcs]
  have hf : (w.alloc (.cells cs 5)).freeze ⟨w.heap.size, L.length, none⟩ 1 = w.alloc (.cells cs 5 (L.length, L.length + 1)) := by
    unfold World.freeze
    rw [if_neg (by decide)]
    show ({ w.alloc (.cells cs 5) with heap := (w.heap.push (.cells cs 5)).modify w.heap.size _ } : World) = _
    rw [push_modify]
    rfl
  simp [convert, run_underlying Tryz.underlying43, run_underlying Tryz.underlying5, markStringish, hs]
  exact hf
theorem sl_lit (w : World) (L : List Nat) (fr : Nat × Nat) (hL : ∀ z ∈ L, z < 256) (hl : L.length ≤ 1000) : Sl (w.alloc (.cells (bvs L).toArray 5 fr)) (.slice (some ⟨w.heap.size, 0, none⟩) L.length L.length) L := by
  have hr : (w.alloc (.cells (bvs L).toArray 5 fr)).heap[w.heap.size]? = some (.cells (bvs L).toArray 5 fr) := heap_alloc_new w _
  refine ⟨some ⟨w.heap.size, 0, none⟩, L.length, rfl, Nat.le_refl _, by unfold maxLen; omega, hL, by simp, fun i hi => ⟨_, _, rfl, ?_⟩⟩
  rw [Nat.zero_add, cell_of_row _ _ i _ _ _ hr]
  simpa using bvs_get L i hi
def magB : List Nat := [66, 85, 76, 75, 72, 69, 65, 68]
/-- the bytes of a section -/
def secZ (I : Im) (zs : List Nat) (k : Nat) : List Nat := (zs.drop (fstN I k)).take (lenN I k)
/-- the header, with so many entries -/
def hdP (I : Im) (zs : List Nat) : Nat → List Nat
  | 0 => magB ++ Pl.le 2 1 ++ Pl.le 2 8 ++ Pl.le 4 (zs.length / 4096) ++ Pl.le 8 I.base
  | i + 1 => hdP I zs i ++ entB (i + 1) (fstN I (i + 1)) (lenN I (i + 1)) (Pl.crc (secZ I zs (i + 1)))
def hdF (I : Im) (zs : List Nat) : List Nat := hdP I zs 8 ++ Pl.le 4 (Pl.crc (hdP I zs 8)) ++ Pl.le 4 0
/-- all bytes -/
def encF (I : Im) : List Nat := hdF I (stN I 9).1 ++ (stN I 9).1.drop 160
theorem hdP_len (I : Im) (zs : List Nat) : ∀ i, (hdP I zs i).length = 24 + 16 * i
  | 0 => by simp [hdP, magB, Pl.le_length]
  | i + 1 => by rw [hdP, List.length_append, entB_len, hdP_len I zs i]; omega
theorem hdF_len (I : Im) (zs : List Nat) : (hdF I zs).length = 160 := by simp [hdF, hdP_len, Pl.le_length]
theorem stN_mono (I : Im) : ∀ j k, j ≤ k → (stN I j).1.length ≤ (stN I k).1.length := by
  intro j k h
  induction k with
  | zero => simp at h; subst h; exact Nat.le_refl _
  | succ k ih =>
    by_cases e : j = k + 1
    · subst e; exact Nat.le_refl _
    · refine Nat.le_trans (ih (by omega)) ?_
      have h1 := sec_ge I k (zerosS (begN k (stN I k).1.length - (stN I k).1.length) (stN I k))
      rw [zeros_len] at h1
      rw [stN]
      omega
theorem fst_len (I : Im) (k : Nat) (h : k < 9) : fstN I k + lenN I k = (stN I (k + 1)).1.length ∧ (stN I (k + 1)).1.length ≤ (stN I 9).1.length := by
  refine ⟨?_, stN_mono I _ _ (by omega)⟩
  have := fst_le I k h
  unfold lenN
  omega
theorem st9_ge (I : Im) : 160 ≤ (stN I 9).1.length := by
  have h := stN_mono I 1 9 (by omega)
  have h1 : 160 ≤ (stN I 1).1.length := by
    show 160 ≤ (roomS I _).1.length
    rw [roomS, zeros_len]
    omega
  omega
/-- the cells of an entry -/
theorem five_get (F : Nat → List Value) (hF : ∀ k, (F k).length = 5) : ∀ (n k j : Nat), k < n → j < 5 → ((List.range n).flatMap F)[5 * k + j]? = (F k)[j]?
  | 0, k, j, hk, _ => by omega
  | n + 1, k, j, hk, hj => by
    have hl : ∀ m, ((List.range m).flatMap F).length = 5 * m := fun m => by
      induction m with
      | zero => rfl
      | succ m ih => rw [List.range_succ, List.flatMap_append, List.length_append, ih, List.flatMap_singleton, hF]; omega
    rw [List.range_succ, List.flatMap_append, List.flatMap_singleton]
    by_cases e : k < n
    · rw [List.getElem?_append_left (by rw [hl]; omega)]
      exact five_get F hF n k j e hj
    · obtain rfl : k = n := by omega
      rw [List.getElem?_append_right (by rw [hl]; omega), hl]
      congr 1
      omega
theorem en_get (I : Im) {k j : Nat} (hk : k < 9) (hj : j < 5) : (enN I 9)[5 * k + j]? = (entC k (fstN I k) (lenN I k))[j]? := by
  unfold enN
  rw [five_get _ (fun k => by split <;> rfl) 9 k j hk hj, if_pos hk]
end Go.Proofs.YtmfkggngjeolcaaGreatDoor
