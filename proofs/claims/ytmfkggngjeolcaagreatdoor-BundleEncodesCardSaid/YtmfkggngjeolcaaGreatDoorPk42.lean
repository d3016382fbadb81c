import Derived.Test.YtmfkggngjeolcaaGreatDoorPk31
import Derived.Test.YtmfkggngjeolcaaGreatDoorPk26
import Derived.Great.BuildSlice
import Derived.Great.FillDense
import Derived.Laws.Tables
import Derived.Laws.CopyOwn
import Derived.Test.YtmfkggngjeolcaaGreatDoorPk41
import Derived.Test.YtmfkggngjeolcaaGreatDoorRows
import Derived.Deep.Slices
import Derived.SizedLaws
import Derived.WalkKit
import Derived.ProofKit
import Derived.OpenShut
import Derived.ShutString
import Derived.ChangeOld
import Derived.Below
/- Bundle: small, an image with one of each thing (written by parts/gen_bnsm.py). Own work. -/
namespace Go.Proofs.YtmfkggngjeolcaaGreatDoor
open Go.RowKit Bn
set_option linter.unusedVariables false
set_option linter.unusedSimpArgs false
def tA : Nat → Nat := fun p => if p = 0 then 1 else if p = 1 then 2 else if p = 2 then 3 else 0
def tB : Nat → Nat := fun p => if p = 511 then 7 else 0
def tAB : Array Value := ((tabV tA).toList ++ (tabV tB).toList).toArray
def smallI (m : Bool) : Im := ⟨8192, [(4096, 65536)], [(1073741824, 4096)], [⟨3, 1, true, 1, -1, 63⟩], [-1], [⟨4096, 4096, 255, ⟨#[102, 105, 114, 115, 116]⟩⟩], [⟨0, -1, 4, 7, false⟩], [⟨0, 0, 1, 9, m⟩], [⟨100, [[(0, 99), (-1, 1)], []]⟩], -1, 0, [tA, tB]⟩
theorem bs_run {t e : TypeId} {len sz : Nat} {z : Value} {parts : Array (Nat × Value)} {cells : Array Value} (hu : Tryz.prog.underlying t = some (.slice e)) (hi : (Tryz.prog.info? e).map (fun i => (i.zero, i.size)) = some (some z, sz)) (h1 : ¬ len * sz > 2 ^ 24) (h2 : ¬ len * sz = 0) (hf : Instr.fill (fun i => some (i * sz, sz)) ((Array.range (len * sz)).map (z.cells[· % z.cells.size]!)) parts.toList = some cells) (W : World) : (Instr.buildSlice t len parts).run Tryz.prog W = .ok (.slice (some ⟨W.heap.size, 0, none⟩) len len) (W.alloc (.cells cells e)) := by
  obtain ⟨ie, hie, he⟩ := Option.map_eq_some_iff.1 hi
  simp only [Prod.mk.injEq] at he
  obtain ⟨hz, hs⟩ := he
  subst hs
  exact run_buildSlice W t e len parts cells ie z hu hie hz h1 h2 hf
theorem wpList_bs {ops : Array Oper} {rest : List Oper} {oo : Oper} {a : Act} {w : World} {Q : Exit → Act → World → Prop} (hgd : oo.guard = none) {t e : TypeId} {len : Nat} (parts : Array (Nat × Operand)) (ho : oo.op = .buildSlice t len parts) (vals : Array (Nat × Value)) (hv : (parts.map fun (i, x) => (i, a.eval x)) = vals) {n : Nat} (hn : w.heap.size = n) {q : Array Value} (hr : ∀ W, (Instr.buildSlice t len vals).run Tryz.prog W = .ok (.slice (some ⟨W.heap.size, 0, none⟩) len len) (W.alloc (.cells q e))) (h : ∀ W', W'.heap.size = n + 1 → Hid (W'.heap[n]? = some (.cells q e (0, 0))) → Hid (Below n w W') → wpList Tryz.prog ops Q rest (a.put oo.dst (.slice (some ⟨n, 0, none⟩) len len)) W') : wpList Tryz.prog ops Q (oo :: rest) a w :=
  wpList_plain hgd fun K hK => by
    subst hn
    unfold Oper.wp execOp
    simp only [ho, Sem.run_bind, Sem.run_pure, Result.andThen_ok, hv, hr]
    exact hK _ _ (h _ (by simp) (heap_alloc_new w _) ((Below.refl _ _).alloc (Nat.le_refl _) _))
set_option maxRecDepth 100000 in
theorem tA_build (W : World) : (Instr.build 80 #[(0, .int .u64 1), (1, .int .u64 2), (2, .int .u64 3)]).run Tryz.prog W = .ok (.agg (tabV tA)) W := run_build W _ _ _ (by kernel_rfl)
set_option maxRecDepth 100000 in
theorem tB_build (W : World) : (Instr.build 80 #[(511, .int .u64 7)]).run Tryz.prog W = .ok (.agg (tabV tB)) W := run_build W _ _ _ (by kernel_rfl)
theorem tAB_slice (W : World) : (Instr.buildSlice 31 2 #[(0, .agg (tabV tA)), (1, .agg (tabV tB))]).run Tryz.prog W = .ok (.slice (some ⟨W.heap.size, 0, none⟩) 2 2) (W.alloc (.cells tAB 80)) := by
  have hi : (Tryz.prog.info? 80).map (fun i => (i.zero, i.size)) = some (some (.agg (tabV fun _ => 0)), 512) := by kernel_rfl
  have s0 := tabV_size (fun _ => 0)
  have s1 := tabV_size tA
  have s2 := tabV_size tB
  unfold tAB
  generalize tabV (fun _ => 0) = Z at hi s0
  generalize tabV tA = Q1 at *
  generalize tabV tB = Q2 at *
  refine bs_run Tryz.underlying31 hi (by decide) (by decide) ?_ W
  have h := Go.Great.fill_whole (s := 512) (by decide) [.agg Q1, .agg Q2] ((Array.range (2 * 512)).map ((Value.agg Z).cells[· % (Value.agg Z).cells.size]!)) (fun v hv => by
    rcases List.mem_cons.1 hv with rfl | hv
    · exact s1
    · rw [List.mem_singleton.1 hv]; exact s2) (by simp)
  have e : ([Value.agg Q1, .agg Q2].flatMap fun v => v.cells.toList).toArray = (Q1.toList ++ Q2.toList).toArray := by
    show (Q1.toList ++ (Q2.toList ++ [])).toArray = _
    rw [List.append_nil]
  rw [e] at h
  exact h
set_option maxRecDepth 100000 in
theorem s1_slice (W : World) : (Instr.buildSlice 23 1 #[(0, .agg #[.int .u64 4096, .int .u64 65536])]).run Tryz.prog W = .ok (.slice (some ⟨W.heap.size, 0, none⟩) 1 1) (W.alloc (.cells #[.int .u64 4096, .int .u64 65536] 64)) :=
  bs_run (sz := 2) (z := .agg #[.int .u64 0, .int .u64 0]) Tryz.underlying23 (by kernel_rfl) (by decide) (by decide) (by kernel_rfl) W
set_option maxRecDepth 100000 in
theorem s2_slice (W : World) : (Instr.buildSlice 23 1 #[(0, .agg #[.int .u64 1073741824, .int .u64 4096])]).run Tryz.prog W = .ok (.slice (some ⟨W.heap.size, 0, none⟩) 1 1) (W.alloc (.cells #[.int .u64 1073741824, .int .u64 4096] 64)) :=
  bs_run (sz := 2) (z := .agg #[.int .u64 0, .int .u64 0]) Tryz.underlying23 (by kernel_rfl) (by decide) (by decide) (by kernel_rfl) W
set_option maxRecDepth 100000 in
theorem s3_slice (W : World) : (Instr.buildSlice 26 1 #[(0, .agg #[.int .i64 (3), .int .i64 (1), .bool true, .int .i64 (1), .int .i64 (-1), .int .i64 (63)])]).run Tryz.prog W = .ok (.slice (some ⟨W.heap.size, 0, none⟩) 1 1) (W.alloc (.cells #[.int .i64 (3), .int .i64 (1), .bool true, .int .i64 (1), .int .i64 (-1), .int .i64 (63)] 66)) :=
  bs_run (sz := 6) (z := .agg #[.int .i64 (0), .int .i64 (0), .bool false, .int .i64 (0), .int .i64 (0), .int .i64 (0)]) Tryz.underlying26 (by kernel_rfl) (by decide) (by decide) (by kernel_rfl) W
set_option maxRecDepth 100000 in
theorem s4_slice (W : World) : (Instr.buildSlice 27 1 #[(0, .agg #[.int .i64 (-1)])]).run Tryz.prog W = .ok (.slice (some ⟨W.heap.size, 0, none⟩) 1 1) (W.alloc (.cells #[.int .i64 (-1)] 68)) :=
  bs_run (sz := 1) (z := .agg #[.int .i64 (0)]) Tryz.underlying27 (by kernel_rfl) (by decide) (by decide) (by kernel_rfl) W
set_option maxRecDepth 100000 in
theorem s5_slice (W : World) : (Instr.buildSlice 28 1 #[(0, .agg #[.int .u64 4096, .int .u64 4096, .int .u8 255, .string ⟨#[102, 105, 114, 115, 116]⟩])]).run Tryz.prog W = .ok (.slice (some ⟨W.heap.size, 0, none⟩) 1 1) (W.alloc (.cells #[.int .u64 4096, .int .u64 4096, .int .u8 255, .string ⟨#[102, 105, 114, 115, 116]⟩] 70)) :=
  bs_run (sz := 4) (z := .agg #[.int .u64 0, .int .u64 0, .int .u8 0, .string ⟨#[]⟩]) Tryz.underlying28 (by kernel_rfl) (by decide) (by decide) (by kernel_rfl) W
set_option maxRecDepth 100000 in
theorem s6_slice (W : World) : (Instr.buildSlice 29 1 #[(0, .agg #[.int .i64 (0), .int .i64 (-1), .int .i64 (4), .int .i64 (7), .bool false])]).run Tryz.prog W = .ok (.slice (some ⟨W.heap.size, 0, none⟩) 1 1) (W.alloc (.cells #[.int .i64 (0), .int .i64 (-1), .int .i64 (4), .int .i64 (7), .bool false] 72)) :=
  bs_run (sz := 5) (z := .agg #[.int .i64 (0), .int .i64 (0), .int .i64 (0), .int .i64 (0), .bool false]) Tryz.underlying29 (by kernel_rfl) (by decide) (by decide) (by kernel_rfl) W
set_option maxRecDepth 100000 in
theorem s7_slice (W : World) : (Instr.buildSlice 29 1 #[(0, .agg #[.int .i64 (0), .int .i64 (0), .int .i64 (1), .int .i64 (9), .bool true])]).run Tryz.prog W = .ok (.slice (some ⟨W.heap.size, 0, none⟩) 1 1) (W.alloc (.cells #[.int .i64 (0), .int .i64 (0), .int .i64 (1), .int .i64 (9), .bool true] 72)) :=
  bs_run (sz := 5) (z := .agg #[.int .i64 (0), .int .i64 (0), .int .i64 (0), .int .i64 (0), .bool false]) Tryz.underlying29 (by kernel_rfl) (by decide) (by decide) (by kernel_rfl) W
set_option maxRecDepth 100000 in
theorem s8_slice (W : World) : (Instr.buildSlice 75 2 #[(0, .agg #[.int .i64 (0), .int .i64 (99)]), (1, .agg #[.int .i64 (-1), .int .i64 (1)])]).run Tryz.prog W = .ok (.slice (some ⟨W.heap.size, 0, none⟩) 2 2) (W.alloc (.cells #[.int .i64 (0), .int .i64 (99), .int .i64 (-1), .int .i64 (1)] 74)) :=
  bs_run (sz := 2) (z := .agg #[.int .i64 (0), .int .i64 (0)]) Tryz.underlying75 (by kernel_rfl) (by decide) (by decide) (by kernel_rfl) W
set_option maxRecDepth 100000 in
theorem s9_slice (B : Nat) (W : World) : (Instr.buildSlice 76 2 #[(0, .slice (some ⟨B + 8, 0, none⟩) 2 2), (1, .slice none 0 0)]).run Tryz.prog W = .ok (.slice (some ⟨W.heap.size, 0, none⟩) 2 2) (W.alloc (.cells #[.slice (some ⟨B + 8, 0, none⟩) 2 2, .slice none 0 0] 75)) :=
  bs_run (sz := 1) (z := .slice none 0 0) Tryz.underlying76 (by kernel_rfl) (by decide) (by decide) (by kernel_rfl) W
set_option maxRecDepth 100000 in
theorem s10_slice (B : Nat) (W : World) : (Instr.buildSlice 30 1 #[(0, .agg #[.int .i64 (100), .slice (some ⟨B + 9, 0, none⟩) 2 2])]).run Tryz.prog W = .ok (.slice (some ⟨W.heap.size, 0, none⟩) 1 1) (W.alloc (.cells #[.int .i64 (100), .slice (some ⟨B + 9, 0, none⟩) 2 2] 78)) :=
  bs_run (sz := 2) (z := .agg #[.int .i64 (0), .slice none 0 0]) Tryz.underlying30 (by kernel_rfl) (by decide) (by decide) (by kernel_rfl) W
def smIm (B : Nat) : List Value := [.int .u64 8192, .slice (some ⟨B + 1, 0, none⟩) 1 1, .slice (some ⟨B + 2, 0, none⟩) 1 1, .slice (some ⟨B + 3, 0, none⟩) 1 1, .slice (some ⟨B + 4, 0, none⟩) 1 1, .slice (some ⟨B + 5, 0, none⟩) 1 1, .slice (some ⟨B + 6, 0, none⟩) 1 1, .slice (some ⟨B + 7, 0, none⟩) 1 1, .slice (some ⟨B + 10, 0, none⟩) 1 1, .int .i64 (-1), .int .i64 (0), .slice (some ⟨B + 11, 0, none⟩) 2 2]
set_option maxRecDepth 100000 in
theorem im_build (B : Nat) (W : World) : (Instr.build 33 #[(0, .int .u64 8192), (1, .agg #[.slice (some ⟨B + 1, 0, none⟩) 1 1, .slice (some ⟨B + 2, 0, none⟩) 1 1]), (2, .slice (some ⟨B + 3, 0, none⟩) 1 1), (3, .slice (some ⟨B + 4, 0, none⟩) 1 1), (4, .slice (some ⟨B + 5, 0, none⟩) 1 1), (5, .slice (some ⟨B + 6, 0, none⟩) 1 1), (6, .slice (some ⟨B + 7, 0, none⟩) 1 1), (7, .slice (some ⟨B + 10, 0, none⟩) 1 1), (8, .int .i64 (-1)), (9, .int .i64 (0)), (10, .slice (some ⟨B + 11, 0, none⟩) 2 2)]).run Tryz.prog W = .ok (.agg (smIm B).toArray) W := run_build W _ _ _ (by kernel_rfl)
theorem smIm_one (B : Nat) : (smIm B).toArray.all (·.oneCell') = true := by simp [smIm, Value.oneCell']
/-- small, in memory: its blocks lie one behind the other -/
structure SmA (w : World) (B : Nat) (m : Bool) : Prop where
  h1 : w.heap[B + 1]? = some (.cells #[.int .u64 4096, .int .u64 65536] 64 (0, 0))
  h2 : w.heap[B + 2]? = some (.cells #[.int .u64 1073741824, .int .u64 4096] 64 (0, 0))
  h3 : w.heap[B + 3]? = some (.cells #[.int .i64 (3), .int .i64 (1), .bool true, .int .i64 (1), .int .i64 (-1), .int .i64 (63)] 66 (0, 0))
  h4 : w.heap[B + 4]? = some (.cells #[.int .i64 (-1)] 68 (0, 0))
  h5 : w.heap[B + 5]? = some (.cells #[.int .u64 4096, .int .u64 4096, .int .u8 255, .string ⟨#[102, 105, 114, 115, 116]⟩] 70 (0, 0))
  h6 : w.heap[B + 6]? = some (.cells #[.int .i64 (0), .int .i64 (-1), .int .i64 (4), .int .i64 (7), .bool false] 72 (0, 0))
  h7 : w.heap[B + 7]? = some (.cells #[.int .i64 (0), .int .i64 (0), .int .i64 (1), .int .i64 (9), .bool m] 72 (0, 0))
  h8 : w.heap[B + 8]? = some (.cells #[.int .i64 (0), .int .i64 (99), .int .i64 (-1), .int .i64 (1)] 74 (0, 0))
  h9 : w.heap[B + 9]? = some (.cells #[.slice (some ⟨B + 8, 0, none⟩) 2 2, .slice none 0 0] 75 (0, 0))
  h10 : w.heap[B + 10]? = some (.cells #[.int .i64 (100), .slice (some ⟨B + 9, 0, none⟩) 2 2] 78 (0, 0))
  h11 : w.heap[B + 11]? = some (.cells tAB 80 (0, 0))
theorem row1 {α : Type} {k : Nat} {enc : α → List Value} {w : World} {g : Nat} {x : α} {ty : TypeId} (h : w.heap[g]? = some (.cells (enc x).toArray ty (0, 0))) : RowG k enc w (.slice (some ⟨g, 0, none⟩) 1 1) [x] :=
  ⟨_, _, rfl, Nat.le_refl _, by decide, fun i hi => ⟨g, 0, rfl, (Array.getElem?_eq_some_iff.1 h).1, fun j hj => by
    have h0 : i = 0 := by simp at hi; exact hi
    subst h0
    rw [cell_of_row _ _ _ _ _ _ h]
    simp⟩⟩
theorem tAB_get {i p : Nat} (hi : i < 2) (hp : p < 512) : tAB[0 + i * 512 + p]? = some (.int .u64 (([tA, tB][i] p : Nat) : Int)) := by
  unfold tAB
  rw [List.getElem?_toArray]
  have s1 : (tabV tA).toList.length = 512 := by rw [Array.length_toList, tabV_size]
  match i, hi with
  | 0, _ =>
    rw [List.getElem?_append_left (by rw [s1]; omega), Array.getElem?_toList, show 0 + 0 * 512 + p = p by omega, tabV_get _ hp]
    rfl
  | 1, _ =>
    rw [List.getElem?_append_right (by rw [s1]; omega), Array.getElem?_toList, s1, show 0 + 1 * 512 + p - 512 = p by omega, tabV_get _ hp]
    rfl
theorem SmA.im {w : World} {B : Nat} {m : Bool} (h : SmA w B m) : ImA w (smIm B) (smallI m) where
  base := ⟨rfl, by show (8192 : Nat) ≤ _; decide⟩
  rams := ⟨_, rfl, row1 h.h1, by simp [smallI, rgOk]⟩
  devs := ⟨_, rfl, row1 h.h2, by simp [smallI, rgOk]⟩
  subs := ⟨_, rfl, row1 h.h3, by simp [smallI, tnOk, I64R]⟩
  ports := ⟨_, rfl, row1 h.h4, by simp [smallI, I64R]⟩
  regs := ⟨_, rfl, row1 h.h5, fun x hx => by rw [List.mem_singleton.1 hx]; exact ⟨by decide, by decide, by decide, by decide⟩⟩
  chs := ⟨_, rfl, row1 h.h6, by simp [smallI, lkOk, I64R]⟩
  irqs := ⟨_, rfl, row1 h.h7, by simp [smallI, lkOk, I64R]⟩
  plans := by
    refine ⟨_, rfl, ⟨_, _, rfl, Nat.le_refl _, by decide, fun i hi => ?_⟩, by simp [smallI, scOk, lnOk, stOk, I64R]; omega⟩
    have h0 : i = 0 := by simp [smallI] at hi; exact hi
    subst h0
    refine ⟨B + 10, 0, .slice (some ⟨B + 9, 0, none⟩) 2 2, rfl, ?_, ?_, ?_⟩
    · rw [cell_of_row _ _ _ _ _ _ h.h10]; rfl
    · rw [cell_of_row _ _ _ _ _ _ h.h10]; rfl
    · refine ⟨_, _, rfl, Nat.le_refl _, by decide, fun j hj => ?_⟩
      have hj2 : j < 2 := hj
      match j, hj2 with
      | 0, _ =>
        refine ⟨B + 9, 0, .slice (some ⟨B + 8, 0, none⟩) 2 2, rfl, by rw [cell_of_row _ _ _ _ _ _ h.h9]; rfl, ⟨_, _, rfl, Nat.le_refl _, by decide, fun k hk => ?_⟩⟩
        have hk2 : k < 2 := hk
        refine ⟨B + 8, 0, rfl, (Array.getElem?_eq_some_iff.1 h.h8).1, fun q hq => ?_⟩
        rw [cell_of_row _ _ _ _ _ _ h.h8]
        match k, hk2, q, hq with
        | 0, _, 0, _ => rfl
        | 0, _, 1, _ => rfl
        | 1, _, 0, _ => rfl
        | 1, _, 1, _ => rfl
      | 1, _ =>
        exact ⟨B + 9, 0, .slice none 0 0, rfl, by rw [cell_of_row _ _ _ _ _ _ h.h9]; rfl, ⟨none, 0, rfl, Nat.le_refl _, by decide, fun k hk => absurd hk (Nat.not_lt_zero _)⟩⟩
  master := ⟨rfl, by simp [smallI, I64R]⟩
  start := ⟨rfl, by simp [smallI, I64R]⟩
  tabs := by
    refine ⟨_, rfl, ⟨_, _, rfl, Nat.le_refl _, by decide, fun i hi => ⟨B + 11, 0, rfl, fun p hp => ?_⟩⟩, fun f hf => ?_⟩
    · rw [cell_of_row _ _ _ _ _ _ h.h11]
      exact tAB_get hi hp
    · have hf' : f = tA ∨ f = tB := by simpa [smallI] using hf
      rcases hf' with rfl | rfl <;> intro i _
      · unfold tA; split <;> (try split) <;> (try split) <;> omega
      · unfold tB; split <;> omega
  len := rfl
  one := by simp [smIm, Value.oneCell']
set_option maxRecDepth 100000 in
set_option maxHeartbeats 8000000 in
theorem smallX {w : World} : Calls Tryz.prog 6 #[] w fun e w' => e = .returned (.agg (smIm w.heap.size).toArray) ∧ SmA w' w.heap.size true ∧ Hid (w'.heap.size = w.heap.size + 12) ∧ Below w.heap.size w w' := by
  obtain ⟨B, hB⟩ : ∃ B, w.heap.size = B := ⟨_, rfl⟩
  go_enter Tryz.func6, Tryz.ntmps6
  go_upto_region 1 with fail
  have z0 : (w.alloc (.cells #[.int .u64 0, .slice none 0 0, .slice none 0 0, .slice none 0 0, .slice none 0 0, .slice none 0 0, .slice none 0 0, .slice none 0 0, .slice none 0 0, .int .i64 0, .int .i64 0, .slice none 0 0] 33)).heap.size = B + 1 := by simp [hB]
  have k0 : Hid ((w.alloc (.cells #[.int .u64 0, .slice none 0 0, .slice none 0 0, .slice none 0 0, .slice none 0 0, .slice none 0 0, .slice none 0 0, .slice none 0 0, .slice none 0 0, .int .i64 0, .int .i64 0, .slice none 0 0] 33)).heap[B]? = some (.cells #[.int .u64 0, .slice none 0 0, .slice none 0 0, .slice none 0 0, .slice none 0 0, .slice none 0 0, .slice none 0 0, .slice none 0 0, .slice none 0 0, .int .i64 0, .int .i64 0, .slice none 0 0] 33 (0, 0))) := by
    have := heap_alloc_new w (.cells #[.int .u64 0, .slice none 0 0, .slice none 0 0, .slice none 0 0, .slice none 0 0, .slice none 0 0, .slice none 0 0, .slice none 0 0, .slice none 0 0, .int .i64 0, .int .i64 0, .slice none 0 0] 33)
    rw [hB] at this
    exact this
  have HB : Hid (Below B w (w.alloc (.cells #[.int .u64 0, .slice none 0 0, .slice none 0 0, .slice none 0 0, .slice none 0 0, .slice none 0 0, .slice none 0 0, .slice none 0 0, .slice none 0 0, .int .i64 0, .int .i64 0, .slice none 0 0] 33))) := (Below.refl _ _).alloc (by omega) _
  generalize (w.alloc (.cells #[.int .u64 0, .slice none 0 0, .slice none 0 0, .slice none 0 0, .slice none 0 0, .slice none 0 0, .slice none 0 0, .slice none 0 0, .slice none 0 0, .int .i64 0, .int .i64 0, .slice none 0 0] 33)) = W0 at *
  go_wp2_with (first | (refine wpList_bs rfl (t := 23) (len := 1) #[(0, .tmp 1)] rfl #[(0, .agg #[.int .u64 4096, .int .u64 65536])] (by simp [Act.eval, Act.put]) (n := B + 1) z0 (fun W => s1_slice W) ?_; intro W1 z1 k1 f1; replace k0 := Lib.hid ((f1.out.block B (by omega)).trans k0.out); replace HB := Lib.hid (HB.out.trans (f1.out.mono (by omega))); clear f1) | (refine wpList_bs rfl (t := 23) (len := 1) #[(0, .tmp 3)] rfl #[(0, .agg #[.int .u64 1073741824, .int .u64 4096])] (by simp [Act.eval, Act.put]) (n := B + 2) z1 (fun W => s2_slice W) ?_; intro W2 z2 k2 f2; replace k1 := Lib.hid ((f2.out.block (B + 1) (by omega)).trans k1.out); replace k0 := Lib.hid ((f2.out.block B (by omega)).trans k0.out); replace HB := Lib.hid (HB.out.trans (f2.out.mono (by omega))); clear f2) | (refine wpList_bs rfl (t := 26) (len := 1) #[(0, .tmp 6)] rfl #[(0, .agg #[.int .i64 (3), .int .i64 (1), .bool true, .int .i64 (1), .int .i64 (-1), .int .i64 (63)])] (by simp [Act.eval, Act.put]) (n := B + 3) z2 (fun W => s3_slice W) ?_; intro W3 z3 k3 f3; replace k1 := Lib.hid ((f3.out.block (B + 1) (by omega)).trans k1.out); replace k2 := Lib.hid ((f3.out.block (B + 2) (by omega)).trans k2.out); replace k0 := Lib.hid ((f3.out.block B (by omega)).trans k0.out); replace HB := Lib.hid (HB.out.trans (f3.out.mono (by omega))); clear f3) | (refine wpList_bs rfl (t := 27) (len := 1) #[(0, .tmp 8)] rfl #[(0, .agg #[.int .i64 (-1)])] (by simp [Act.eval, Act.put]) (n := B + 4) z3 (fun W => s4_slice W) ?_; intro W4 z4 k4 f4; replace k1 := Lib.hid ((f4.out.block (B + 1) (by omega)).trans k1.out); replace k2 := Lib.hid ((f4.out.block (B + 2) (by omega)).trans k2.out); replace k3 := Lib.hid ((f4.out.block (B + 3) (by omega)).trans k3.out); replace k0 := Lib.hid ((f4.out.block B (by omega)).trans k0.out); replace HB := Lib.hid (HB.out.trans (f4.out.mono (by omega))); clear f4) | (refine wpList_bs rfl (t := 28) (len := 1) #[(0, .tmp 10)] rfl #[(0, .agg #[.int .u64 4096, .int .u64 4096, .int .u8 255, .string ⟨#[102, 105, 114, 115, 116]⟩])] (by simp [Act.eval, Act.put]) (n := B + 5) z4 (fun W => s5_slice W) ?_; intro W5 z5 k5 f5; replace k1 := Lib.hid ((f5.out.block (B + 1) (by omega)).trans k1.out); replace k2 := Lib.hid ((f5.out.block (B + 2) (by omega)).trans k2.out); replace k3 := Lib.hid ((f5.out.block (B + 3) (by omega)).trans k3.out); replace k4 := Lib.hid ((f5.out.block (B + 4) (by omega)).trans k4.out); replace k0 := Lib.hid ((f5.out.block B (by omega)).trans k0.out); replace HB := Lib.hid (HB.out.trans (f5.out.mono (by omega))); clear f5) | (refine wpList_bs rfl (t := 29) (len := 1) #[(0, .tmp 12)] rfl #[(0, .agg #[.int .i64 (0), .int .i64 (-1), .int .i64 (4), .int .i64 (7), .bool false])] (by simp [Act.eval, Act.put]) (n := B + 6) z5 (fun W => s6_slice W) ?_; intro W6 z6 k6 f6; replace k1 := Lib.hid ((f6.out.block (B + 1) (by omega)).trans k1.out); replace k2 := Lib.hid ((f6.out.block (B + 2) (by omega)).trans k2.out); replace k3 := Lib.hid ((f6.out.block (B + 3) (by omega)).trans k3.out); replace k4 := Lib.hid ((f6.out.block (B + 4) (by omega)).trans k4.out); replace k5 := Lib.hid ((f6.out.block (B + 5) (by omega)).trans k5.out); replace k0 := Lib.hid ((f6.out.block B (by omega)).trans k0.out); replace HB := Lib.hid (HB.out.trans (f6.out.mono (by omega))); clear f6) | (refine wpList_bs rfl (t := 29) (len := 1) #[(0, .tmp 14)] rfl #[(0, .agg #[.int .i64 (0), .int .i64 (0), .int .i64 (1), .int .i64 (9), .bool true])] (by simp [Act.eval, Act.put]) (n := B + 7) z6 (fun W => s7_slice W) ?_; intro W7 z7 k7 f7; replace k1 := Lib.hid ((f7.out.block (B + 1) (by omega)).trans k1.out); replace k2 := Lib.hid ((f7.out.block (B + 2) (by omega)).trans k2.out); replace k3 := Lib.hid ((f7.out.block (B + 3) (by omega)).trans k3.out); replace k4 := Lib.hid ((f7.out.block (B + 4) (by omega)).trans k4.out); replace k5 := Lib.hid ((f7.out.block (B + 5) (by omega)).trans k5.out); replace k6 := Lib.hid ((f7.out.block (B + 6) (by omega)).trans k6.out); replace k0 := Lib.hid ((f7.out.block B (by omega)).trans k0.out); replace HB := Lib.hid (HB.out.trans (f7.out.mono (by omega))); clear f7) | (refine wpList_bs rfl (t := 75) (len := 2) #[(0, .tmp 16), (1, .tmp 17)] rfl #[(0, .agg #[.int .i64 (0), .int .i64 (99)]), (1, .agg #[.int .i64 (-1), .int .i64 (1)])] (by simp [Act.eval, Act.put]) (n := B + 8) z7 (fun W => s8_slice W) ?_; intro W8 z8 k8 f8; replace k1 := Lib.hid ((f8.out.block (B + 1) (by omega)).trans k1.out); replace k2 := Lib.hid ((f8.out.block (B + 2) (by omega)).trans k2.out); replace k3 := Lib.hid ((f8.out.block (B + 3) (by omega)).trans k3.out); replace k4 := Lib.hid ((f8.out.block (B + 4) (by omega)).trans k4.out); replace k5 := Lib.hid ((f8.out.block (B + 5) (by omega)).trans k5.out); replace k6 := Lib.hid ((f8.out.block (B + 6) (by omega)).trans k6.out); replace k7 := Lib.hid ((f8.out.block (B + 7) (by omega)).trans k7.out); replace k0 := Lib.hid ((f8.out.block B (by omega)).trans k0.out); replace HB := Lib.hid (HB.out.trans (f8.out.mono (by omega))); clear f8) | (refine wpList_bs rfl (t := 76) (len := 2) #[(0, .tmp 18), (1, .const (.slice none 0 0))] rfl #[(0, .slice (some ⟨B + 8, 0, none⟩) 2 2), (1, .slice none 0 0)] (by simp [Act.eval, Act.put]) (n := B + 9) z8 (fun W => s9_slice B W) ?_; intro W9 z9 k9 f9; replace k1 := Lib.hid ((f9.out.block (B + 1) (by omega)).trans k1.out); replace k2 := Lib.hid ((f9.out.block (B + 2) (by omega)).trans k2.out); replace k3 := Lib.hid ((f9.out.block (B + 3) (by omega)).trans k3.out); replace k4 := Lib.hid ((f9.out.block (B + 4) (by omega)).trans k4.out); replace k5 := Lib.hid ((f9.out.block (B + 5) (by omega)).trans k5.out); replace k6 := Lib.hid ((f9.out.block (B + 6) (by omega)).trans k6.out); replace k7 := Lib.hid ((f9.out.block (B + 7) (by omega)).trans k7.out); replace k8 := Lib.hid ((f9.out.block (B + 8) (by omega)).trans k8.out); replace k0 := Lib.hid ((f9.out.block B (by omega)).trans k0.out); replace HB := Lib.hid (HB.out.trans (f9.out.mono (by omega))); clear f9) | (refine wpList_bs rfl (t := 30) (len := 1) #[(0, .tmp 20)] rfl #[(0, .agg #[.int .i64 (100), .slice (some ⟨B + 9, 0, none⟩) 2 2])] (by simp [Act.eval, Act.put]) (n := B + 10) z9 (fun W => s10_slice B W) ?_; intro W10 z10 k10 f10; replace k1 := Lib.hid ((f10.out.block (B + 1) (by omega)).trans k1.out); replace k2 := Lib.hid ((f10.out.block (B + 2) (by omega)).trans k2.out); replace k3 := Lib.hid ((f10.out.block (B + 3) (by omega)).trans k3.out); replace k4 := Lib.hid ((f10.out.block (B + 4) (by omega)).trans k4.out); replace k5 := Lib.hid ((f10.out.block (B + 5) (by omega)).trans k5.out); replace k6 := Lib.hid ((f10.out.block (B + 6) (by omega)).trans k6.out); replace k7 := Lib.hid ((f10.out.block (B + 7) (by omega)).trans k7.out); replace k8 := Lib.hid ((f10.out.block (B + 8) (by omega)).trans k8.out); replace k9 := Lib.hid ((f10.out.block (B + 9) (by omega)).trans k9.out); replace k0 := Lib.hid ((f10.out.block B (by omega)).trans k0.out); replace HB := Lib.hid (HB.out.trans (f10.out.mono (by omega))); clear f10) | (refine wpList_lbuild rfl 80 #[(0, .const (.int .u64 1)), (1, .const (.int .u64 2)), (2, .const (.int .u64 3))] rfl #[(0, .int .u64 1), (1, .int .u64 2), (2, .int .u64 3)] (by simp [Act.eval, Act.put]) (fun W => tA_build W) ?_) | (refine wpList_lbuild rfl 80 #[(511, .const (.int .u64 7))] rfl #[(511, .int .u64 7)] (by simp [Act.eval, Act.put]) (fun W => tB_build W) ?_) | (refine wpList_bs rfl (t := 31) (len := 2) #[(0, .tmp 22), (1, .tmp 23)] rfl #[(0, .agg (tabV tA)), (1, .agg (tabV tB))] (by simp [Act.eval, Act.put]) (n := B + 11) z10 (fun W => tAB_slice W) ?_; intro W11 z11 k11 f11; replace k1 := Lib.hid ((f11.out.block (B + 1) (by omega)).trans k1.out); replace k2 := Lib.hid ((f11.out.block (B + 2) (by omega)).trans k2.out); replace k3 := Lib.hid ((f11.out.block (B + 3) (by omega)).trans k3.out); replace k4 := Lib.hid ((f11.out.block (B + 4) (by omega)).trans k4.out); replace k5 := Lib.hid ((f11.out.block (B + 5) (by omega)).trans k5.out); replace k6 := Lib.hid ((f11.out.block (B + 6) (by omega)).trans k6.out); replace k7 := Lib.hid ((f11.out.block (B + 7) (by omega)).trans k7.out); replace k8 := Lib.hid ((f11.out.block (B + 8) (by omega)).trans k8.out); replace k9 := Lib.hid ((f11.out.block (B + 9) (by omega)).trans k9.out); replace k10 := Lib.hid ((f11.out.block (B + 10) (by omega)).trans k10.out); replace k0 := Lib.hid ((f11.out.block B (by omega)).trans k0.out); replace HB := Lib.hid (HB.out.trans (f11.out.mono (by omega))); clear f11) | (refine wpList_lbuild rfl 33 #[(0, .const (.int .u64 8192)), (1, .tmp 5), (2, .tmp 7), (3, .tmp 9), (4, .tmp 11), (5, .tmp 13), (6, .tmp 15), (7, .tmp 21), (8, .const (.int .i64 (-1))), (9, .const (.int .i64 (0))), (10, .tmp 24)] rfl #[(0, .int .u64 8192), (1, .agg #[.slice (some ⟨B + 1, 0, none⟩) 1 1, .slice (some ⟨B + 2, 0, none⟩) 1 1]), (2, .slice (some ⟨B + 3, 0, none⟩) 1 1), (3, .slice (some ⟨B + 4, 0, none⟩) 1 1), (4, .slice (some ⟨B + 5, 0, none⟩) 1 1), (5, .slice (some ⟨B + 6, 0, none⟩) 1 1), (6, .slice (some ⟨B + 7, 0, none⟩) 1 1), (7, .slice (some ⟨B + 10, 0, none⟩) 1 1), (8, .int .i64 (-1)), (9, .int .i64 (0)), (10, .slice (some ⟨B + 11, 0, none⟩) 2 2)] (by simp [Act.eval, Act.put]) (fun W => im_build B W) ?_) | (refine wpList_store_row rfl 33 (.tmp 0) (.tmp 25) rfl B (smIm B).toArray rfl rfl _ _ k0.out (by kernel_rfl) (by rfl) (smIm_one B) ?_))
  have k0' : Hid ((W11.setRow B (smIm B).toArray).heap[B]? = some (.cells (smIm B).toArray 33 (0, 0))) := setRow_heap _ _ _ _ _ _ k0.out
  (try simp only [Exit.inBlock, Exit.then])
  refine bodyPost_ret (results_cell_row rfl _ _ B 33 (smIm B).toArray (0, 0) _ rfl k0'.out Tryz.underlying33 rfl (by kernel_rfl)) rfl ?_
  have kk : ∀ k, (W11.setRow B (smIm B).toArray).heap[B + (k + 1)]? = W11.heap[B + (k + 1)]? := fun k => setRow_other _ _ _ _ (by omega)
  rw [hB]
  exact ⟨rfl, ⟨(kk 0).trans k1.out, (kk 1).trans k2.out, (kk 2).trans k3.out, (kk 3).trans k4.out, (kk 4).trans k5.out, (kk 5).trans k6.out, (kk 6).trans k7.out, (kk 7).trans k8.out, (kk 8).trans k9.out, (kk 9).trans k10.out, (kk 10).trans k11.out⟩, (size_setRow _ _ _).trans z11, HB.out.trans (below_setRow _ _ _ _ (Nat.le_refl _))⟩
end Go.Proofs.YtmfkggngjeolcaaGreatDoor
/- BundleEncodes: the law's walk. Own work. -/
namespace Go.Proofs.YtmfkggngjeolcaaGreatDoor
open Go.RowKit Bn Ek
set_option linter.unusedVariables false
set_option linter.unusedSimpArgs false
theorem sma_ke {base kb : Nat} {w W : World} {B : Nat} {m : Bool} (h : SmA w B m) {cs : Array Value} (hb : w.heap[kb]? = some (.cells cs 37 (0, 0))) (hk : Ke base kb w W) : SmA W B m :=
  ⟨ke_blk hk hb h.h1 (by decide) (by decide), ke_blk hk hb h.h2 (by decide) (by decide), ke_blk hk hb h.h3 (by decide) (by decide), ke_blk hk hb h.h4 (by decide) (by decide), ke_blk hk hb h.h5 (by decide) (by decide), ke_blk hk hb h.h6 (by decide) (by decide), ke_blk hk hb h.h7 (by decide) (by decide), ke_blk hk hb h.h8 (by decide) (by decide), ke_blk hk hb h.h9 (by decide) (by decide), ke_blk hk hb h.h10 (by decide) (by decide), ke_blk hk hb h.h11 (by decide) (by decide)⟩
/-- what the book writes lies beyond what was there when the law began -/
theorem ke_old {w w3 W : World} {kb : Nat} (h : Below w.heap.size w w3) (hk : Ke w.heap.size kb w3 W) (hkb : w.heap.size ≤ kb) : Below w.heap.size w W :=
  h.trans (Keeps.below hk h.size (fun i _ e => by
    rcases e with rfl | ⟨e, _⟩
    · exact hkb
    · exact e))
set_option maxRecDepth 100000 in
set_option maxHeartbeats 16000000 in
theorem bundleEncodes_walk {w : World} {im : List Value} {I : Im} (ht : Tab w) (hI : ImW w im I) : Calls Tryz.prog 3 #[.agg im.toArray] w fun e w' => e = .returned (.bool true) ∧ Below w.heap.size w w' := by
  have HIn := Lib.hid (info_im hI.len)
  have HT := Lib.hid ht
  have HI := Lib.hid hI
  have HB1 : Hid (Below w.heap.size w (w.alloc (.cells im.toArray 33))) := (Below.refl _ _).alloc (Nat.le_refl _) _
  have HX1 : Hid ((w.alloc (.cells im.toArray 33)).heap[w.heap.size]? = some (.cells im.toArray 33 (0, 0))) := heap_alloc_new w _
  have HS1 : Hid ((w.alloc (.cells im.toArray 33)).heap.size = w.heap.size + 1) := Lib.hid (by simp)
  clear ht hI
  go_enter Tryz.func3, Tryz.ntmps3
  go_upto_region 1 with fail
  generalize (w.alloc (.cells im.toArray 33)) = W1 at *
  have HX2 : Hid ((W1.alloc (.cells #[.slice none 0 0, .slice none 0 0, .int .i64 0, .bool false] 37)).heap[W1.heap.size]? = some (.cells #[.slice none 0 0, .slice none 0 0, .int .i64 0, .bool false] 37 (0, 0))) := heap_alloc_new W1 _
  have HB2 : Hid (Below W1.heap.size W1 (W1.alloc (.cells #[.slice none 0 0, .slice none 0 0, .int .i64 0, .bool false] 37))) := (Below.refl _ _).alloc (Nat.le_refl _) _
  go_upto_region 2 with fail
  generalize (W1.alloc (.cells #[.slice none 0 0, .slice none 0 0, .int .i64 0, .bool false] 37)) = W2 at *
  obtain ⟨kb, hkb⟩ : ∃ k, W1.heap.size = k := ⟨_, rfl⟩
  have HKb : Hid (w.heap.size ≤ kb) := show _ ≤ _ by rw [← hkb, HS1.out]; omega
  have HBw : Hid (Below w.heap.size w W2) := HB1.out.trans (HB2.out.mono HB1.out.size)
  have HXi : Hid (W2.heap[w.heap.size]? = some (.cells im.toArray 33 (0, 0))) := (HB2.out.block w.heap.size (Array.getElem?_eq_some_iff.1 HX1.out).1).trans HX1.out
  rw [hkb] at HX2 ⊢
  clear HB1 HX1 HS1 HB2 hkb
  go_wp2_with fail
  refine smallX.mono ?_
  rintro e w3 ⟨rfl, hs3, hz3, hb3⟩
  have HB3 : Hid (Below w.heap.size w w3) := HBw.out.trans (hb3.mono HBw.out.size)
  have HX3 : Hid (w3.heap[kb]? = some (.cells #[.slice none 0 0, .slice none 0 0, .int .i64 0, .bool false] 37 (0, 0))) := (hb3.block kb (Array.getElem?_eq_some_iff.1 HX2.out).1).trans HX2.out
  have HXi3 : Hid (w3.heap[w.heap.size]? = some (.cells im.toArray 33 (0, 0))) := (hb3.block w.heap.size (Array.getElem?_eq_some_iff.1 HXi.out).1).trans HXi.out
  have HSm := Lib.hid hs3
  clear hs3 hz3 hb3 HBw HX2 HXi
  generalize W2.heap.size = B at *
  have HE1 : Hid (Calls Tryz.prog 5 #[.agg (smIm B).toArray, .pointer (some ⟨kb, 0, none⟩)] w3 fun e w' => e = .returned (.bool true) ∧ Bks w.heap.size kb w' ∧ Ke w.heap.size kb w3 w') := Lib.hid (encodedX (I := smallI true) (fun W hW => (sma_ke HSm.out HX3.out hW).im) (fun W hW => HT.out.below (ke_old HB3.out hW HKb.out)) (by decide +kernel) ⟨_, _, _, _, bk_new HX3.out, by decide⟩ HB3.out.size)
  go_wp2_with fail
  refine HE1.out.mono ?_
  rintro e w4 ⟨rfl, hk4, hke⟩
  have HK4 := Lib.hid hk4
  have HB4 : Hid (Below w.heap.size w w4) := ke_old HB3.out hke HKb.out
  have HXi4 : Hid (w4.heap[w.heap.size]? = some (.cells im.toArray 33 (0, 0))) := ke_blk hke HX3.out HXi3.out (by decide) (by decide)
  clear hk4 hke HE1 HSm HX3 HXi3 HB3
  go_wp2_with (refine wpList_load_arr rfl 33 (.tmp 1) rfl (b := w.heap.size) (g := im.toArray) rfl HXi4.out Tryz.underlying33 rfl HIn.out ?_)
  refine (heavyX (HI.out.below HB4.out)).mono ?_
  rintro e w5 ⟨r, rfl, hr, hb5⟩
  have HB5 : Hid (Below w.heap.size w w5) := HB4.out.trans (hb5.mono HB4.out.size)
  have HK5 : Hid (Bks w.heap.size kb w5) := Lib.hid (by
    obtain ⟨lv, wv, held, E, h, hl⟩ := HK4.out
    exact ⟨lv, wv, held, E, bk_below h hb5, hl⟩)
  have HXi5 : Hid (w5.heap[w.heap.size]? = some (.cells im.toArray 33 (0, 0))) := (hb5.block w.heap.size (Array.getElem?_eq_some_iff.1 HXi4.out).1).trans HXi4.out
  clear hb5 HB4 HK4 HXi4
  cases r with
  | true =>
    clear hr
    go_wp2_with fail
    go_ret
    exact ⟨rfl, HB5.out⟩
  | false =>
    have HC : Hid (cntI I < 4000000) := hr rfl
    clear hr
    have HE2 : Hid (Calls Tryz.prog 5 #[.agg im.toArray, .pointer (some ⟨kb, 0, none⟩)] w5 fun e w' => e = .returned (.bool true) ∧ Bks w.heap.size kb w' ∧ Ke w.heap.size kb w5 w') := Lib.hid (encodedX (fun W hW => (HI.out.below (ke_old HB5.out hW HKb.out)).a HC.out) (fun W hW => HT.out.below (ke_old HB5.out hW HKb.out)) HC.out HK5.out HB5.out.size)
    go_wp2_with (refine wpList_load_arr rfl 33 (.tmp 1) rfl (b := w.heap.size) (g := im.toArray) rfl HXi5.out Tryz.underlying33 rfl HIn.out ?_)
    refine HE2.out.mono ?_
    rintro e w6 ⟨rfl, hk6, hke⟩
    have HB6 : Hid (Below w.heap.size w w6) := ke_old HB5.out hke HKb.out
    obtain ⟨lv, wv, held, E, hbk, hlen⟩ := hk6
    have HEn := Lib.hid hbk.ents
    have HA := Lib.hid (bk_apart hbk hlen)
    clear hbk hlen hke HE2 HK5 HB5 HXi5
    go_wp2_with fail
    refine HA.out.mono ?_
    rintro e w7 ⟨rfl, hk7⟩
    have HB7 : Hid (Below w.heap.size w w7) := HB6.out.trans (Keeps.below hk7 HB6.out.size (fun i _ e => by
      rcases e with rfl | ⟨x, hx, e⟩
      · exact HKb.out
      · exact ((HEn.out x hx).l.lt i e).1))
    clear hk7 HA
    go_wp2_with fail
    go_ret
    exact ⟨rfl, HB7.out⟩
end Go.Proofs.YtmfkggngjeolcaaGreatDoor
/- Bundle: an image that comes in (written by parts/gen_bnop.py). Own work. -/
namespace Go.Proofs.YtmfkggngjeolcaaGreatDoor
open Go.RowKit Go.ChangeShapes Go.WideShapes Bn
set_option linter.unusedVariables false
set_option linter.unusedSimpArgs false
theorem u64_nat {n : Int} (h : (Lit.int .u64 n).wf = true) : ∃ m : Nat, n = (m : Int) ∧ m ≤ 18446744073709551615 := by
  simp [Lit.wf] at h
  have h1 : 0 ≤ n := h.1
  have h2 : n ≤ 18446744073709551615 := h.2
  exact ⟨n.toNat, by omega, by omega⟩
theorem u8_nat {n : Int} (h : (Lit.int .u8 n).wf = true) : ∃ m : Nat, n = (m : Int) ∧ m ≤ 255 := by
  simp [Lit.wf] at h
  have h1 : 0 ≤ n := h.1
  have h2 : n ≤ 255 := h.2
  exact ⟨n.toNat, by omega, by omega⟩
theorem i64_in {n : Int} (h : (Lit.int .i64 n).wf = true) : I64R n := by
  simp [Lit.wf] at h
  have h1 : -9223372036854775808 ≤ n := h.1
  have h2 : n ≤ 9223372036854775807 := h.2
  exact ⟨h1, h2⟩
theorem some_in {α : Type} {xs : List α} {n i : Nat} (h : xs.length = n) (hi : i < n) : ∃ y, xs[i]? = some y := ⟨xs[i], List.getElem?_eq_getElem (by omega)⟩
section
variable {H : Type} {enc : TypeId × Value → H} {W : World} {base : Nat} {held : Bool}
/-- nothing in it is beyond what memory holds -/
def Sm (t : TypeId) (d : DataW H) : Prop := ∀ n ∈ d.weights Tryz.prog t, n ≤ reachBytes
theorem Sm.field {fs : Array Field} {t : TypeId} {xs : List (DataW H × List MemPlace)} (hu : Tryz.prog.underlying t = some (.struct fs)) (h : Sm t (.agg (xs.map (·.1)))) {i : Nat} {f : Field} (hf : fs[i]? = some f) {y : DataW H × List MemPlace} (hy : xs[i]? = some y) : Sm f.type y.1 := fun n hn => h n (by
  simp only [DataW.weights, hu]
  refine DataW.weights_mem_each (j := i) (t := f.type) (d := y.1) ?_ ?_ n hn
  · rw [List.getElem?_map, Array.getElem?_toList, hf]
    rfl
  · rw [List.getElem?_map, hy]
    rfl)
theorem weights_all {e : TypeId} : ∀ {ds : List (DataW H)} {d : DataW H}, d ∈ ds → ∀ n ∈ d.weights Tryz.prog e, n ∈ DataW.weightsAll Tryz.prog e ds
  | x :: ds, d, h, n, hn => by
    rw [DataW.weightsAll, List.mem_append]
    rcases List.mem_cons.1 h with rfl | h
    · exact .inl hn
    · exact .inr (weights_all h n hn)
theorem Sm.elem {t e : TypeId} {el sp : List (DataW H)} (hu : Tryz.prog.underlying t = some (.slice e)) (h : Sm t (.slice el sp)) {d : DataW H} (hd : d ∈ el) : Sm e d := fun n hn => h n (by
  simp only [DataW.weights, hu]
  exact List.mem_cons_of_mem _ (List.mem_append.2 (.inl (weights_all hd n hn))))
theorem Sm.len {t e : TypeId} {el sp : List (DataW H)} (hu : Tryz.prog.underlying t = some (.slice e)) (h : Sm t (.slice el sp)) (hb : 1 ≤ Tryz.prog.bytesOf e) : el.length ≤ reachBytes := by
  have := h ((el.length + sp.length) * Tryz.prog.bytesOf e) (by
    simp only [DataW.weights, hu]
    exact List.mem_cons_self)
  have h2 : (el.length + sp.length) * 1 ≤ (el.length + sp.length) * Tryz.prog.bytesOf e := Nat.mul_le_mul_left _ hb
  omega
theorem Sm.str {t : TypeId} {l : List UInt8} (h : Sm (H := H) t (.lit (.string l))) : l.length ≤ reachBytes := h l.length (by simp [DataW.weights])
theorem row_open {α : Type} [Inhabited α] {K : Nat} {p : α → List Value → Prop} {t e : TypeId} (hu : Tryz.prog.underlying t = some (.slice e)) (hK : Tryz.prog.cellsOf e = K) (hK0 : 0 < K) (hbb : 1 ≤ Tryz.prog.bytesOf e) (hone : ∀ (n : Nat) (cs : List Value) (x : DataW H × List MemPlace), DataW.trod enc Tryz.prog W base (fun _ => true) held n e cs = some x → Sm e x.1 → ∃ y, p y cs) {fuel : Nat} {cs : List Value} {x : DataW H × List MemPlace} (h : DataW.trod enc Tryz.prog W base (fun _ => true) held fuel t cs = some x) (hs : Sm t x.1) : ∃ (ao : Option Addr) (cap : Nat) (xs : List α), cs = [.slice ao xs.length cap] ∧ xs.length ≤ cap ∧ cap ≤ maxLen ∧ xs.length ≤ reachBytes ∧ ∀ i (h : i < xs.length), ∃ b o cs', ao = some ⟨b, o, none⟩ ∧ b < W.heap.size ∧ p xs[i] cs' ∧ cs'.length = K ∧ ∀ j, j < K → W.cell? ⟨b, o + i * K + j, none⟩ = cs'[j]? := by
  rcases Go.Deep.open_slice hu h with ⟨rfl, _⟩ | ⟨a, len, cap, m, n, D, Pl, rfl, _, hl, hm, hmm, rfl, hx⟩
  · exact ⟨none, 0, [], rfl, Nat.le_refl _, Nat.zero_le _, Nat.zero_le _, fun i hi => by simp at hi⟩
  · rw [hK] at hx
    have hmc : m = cap := by simpa using hmm
    have hlr := Sm.len hu hs hbb
    rw [List.length_map, List.length_range] at hlr
    obtain ⟨F, hF⟩ := Go.Deep.choose_lt (α := α) (n := len) (p := fun i y => ∃ cs', p y cs' ∧ cs'.length = K ∧ ∀ j, j < K → W.cell? ((a.add (i * K)).add j) = cs'[j]?) (fun i hi => by
      obtain ⟨cs', h1, h2⟩ := hx i (by omega)
      obtain ⟨_, hlen, hc⟩ := World.cells?_some h1
      obtain ⟨y, hy⟩ := hone n cs' _ h2 (Sm.elem hu hs (List.mem_map.2 ⟨i, List.mem_range.2 hi, rfl⟩))
      exact ⟨y, cs', hy, hlen, hc⟩)
    refine ⟨some a, cap, (List.range len).map F, by simp, by simpa using hl, hm, by simpa using hlr, fun i hi => ?_⟩
    have hi' : i < len := by simpa using hi
    obtain ⟨cs', h1, h2, hc⟩ := hF i hi'
    have hget : ((List.range len).map F)[i] = F i := by simp
    rw [hget]
    obtain ⟨v0, hv0⟩ := some_in h2 hK0
    have hc0 := (hc 0 hK0).trans hv0
    obtain ⟨b, o, sp⟩ := a
    cases sp with
    | some q =>
      obtain ⟨cs0, _, k2, kc⟩ := hF 0 (by omega)
      obtain ⟨u0, hu0⟩ := some_in k2 hK0
      exact absurd (World.cell?_spot ((kc 0 hK0).trans hu0)) (by simp [Addr.add])
    | none =>
      simp only [Go.WideShapes.add_plain] at hc hc0
      exact ⟨b, o, cs', rfl, World.block_lt_of_cell? W _ hc0, h1, h2, hc⟩
theorem row_of {α : Type} [Inhabited α] {K : Nat} {encE : α → List Value} {ok : α → Prop} {t e : TypeId} (hu : Tryz.prog.underlying t = some (.slice e)) (hK : Tryz.prog.cellsOf e = K) (hK0 : 0 < K) (hbb : 1 ≤ Tryz.prog.bytesOf e) (hone : ∀ (n : Nat) (cs : List Value) (x : DataW H × List MemPlace), DataW.trod enc Tryz.prog W base (fun _ => true) held n e cs = some x → Sm e x.1 → ∃ y, cs = encE y ∧ ok y) {fuel : Nat} {cs : List Value} {x : DataW H × List MemPlace} (h : DataW.trod enc Tryz.prog W base (fun _ => true) held fuel t cs = some x) (hs : Sm t x.1) : ∃ v xs, cs = [v] ∧ RowG K encE W v xs ∧ (∀ y ∈ xs, ok y) ∧ xs.length ≤ reachBytes ∧ v.oneCell' = true := by
  obtain ⟨ao, cap, xs, rfl, h1, h2, h3, h4⟩ := row_open (p := fun y cs => cs = encE y ∧ ok y) hu hK hK0 hbb hone h hs
  refine ⟨_, xs, rfl, ⟨ao, cap, rfl, h1, h2, fun i hi => ?_⟩, fun y hy => ?_, h3, rfl⟩
  · obtain ⟨b, o, cs', e1, e2, ⟨e3, _⟩, _, e5⟩ := h4 i hi
    subst e3
    exact ⟨b, o, e1, e2, e5⟩
  · obtain ⟨i, hi, rfl⟩ := List.getElem_of_mem hy
    obtain ⟨_, _, _, _, _, ⟨_, e4⟩, _⟩ := h4 i hi
    exact e4
theorem list_1 {α : Type} {cs : List α} {x0 : α} (h : cs.length = 1) (h0 : (cs.drop 0).take 1 = [x0]) : cs = [x0] := by
  match cs, h with
  | [a], _ => simp_all
theorem list_2 {α : Type} {cs : List α} {x0 x1 : α} (h : cs.length = 2) (h0 : (cs.drop 0).take 1 = [x0]) (h1 : (cs.drop 1).take 1 = [x1]) : cs = [x0, x1] := by
  match cs, h with
  | [a, b], _ => simp_all
theorem list_4 {α : Type} {cs : List α} {x0 x1 x2 x3 : α} (h : cs.length = 4) (h0 : (cs.drop 0).take 1 = [x0]) (h1 : (cs.drop 1).take 1 = [x1]) (h2 : (cs.drop 2).take 1 = [x2]) (h3 : (cs.drop 3).take 1 = [x3]) : cs = [x0, x1, x2, x3] := by
  match cs, h with
  | [a, b, c, d], _ => simp_all
theorem list_5 {α : Type} {cs : List α} {x0 x1 x2 x3 x4 : α} (h : cs.length = 5) (h0 : (cs.drop 0).take 1 = [x0]) (h1 : (cs.drop 1).take 1 = [x1]) (h2 : (cs.drop 2).take 1 = [x2]) (h3 : (cs.drop 3).take 1 = [x3]) (h4 : (cs.drop 4).take 1 = [x4]) : cs = [x0, x1, x2, x3, x4] := by
  match cs, h with
  | [a, b, c, d, e], _ => simp_all
theorem list_6 {α : Type} {cs : List α} {x0 x1 x2 x3 x4 x5 : α} (h : cs.length = 6) (h0 : (cs.drop 0).take 1 = [x0]) (h1 : (cs.drop 1).take 1 = [x1]) (h2 : (cs.drop 2).take 1 = [x2]) (h3 : (cs.drop 3).take 1 = [x3]) (h4 : (cs.drop 4).take 1 = [x4]) (h5 : (cs.drop 5).take 1 = [x5]) : cs = [x0, x1, x2, x3, x4, x5] := by
  match cs, h with
  | [a, b, c, d, e, f], _ => simp_all
theorem rg_opened {fuel : Nat} {cs : List Value} {x : DataW H × List MemPlace} (h : DataW.trod enc Tryz.prog W base (fun _ => true) held fuel 64 cs = some x) (hs : Sm 64 x.1) : ∃ y : Rg, cs = rgE y ∧ rgOk y := by
  obtain ⟨xs, n, _, hxe, hl, hlen, hf⟩ := DataW.trod_struct Tryz.underlying64 h
  have hlen' : xs.length = 2 := hlen
  rw [hxe] at hs
  have cS : Tryz.prog.cellsOf 64 = 2 := by kernel_rfl
  obtain ⟨y0, e0⟩ := some_in hlen' (show 0 < 2 by decide)
  obtain ⟨v0, h0, _, w0⟩ := DataW.trod_int Tryz.underlying22 ((hf 0 _ rfl).trans e0)
  change List.take (Tryz.prog.cellsOf 22) (List.drop 0 cs) = _ at h0
  rw [show Tryz.prog.cellsOf 22 = 1 from by kernel_rfl] at h0
  obtain ⟨v0, rfl, a0⟩ := u64_nat w0
  obtain ⟨y1, e1⟩ := some_in hlen' (show 1 < 2 by decide)
  obtain ⟨v1, h1, _, w1⟩ := DataW.trod_int Tryz.underlying22 ((hf 1 _ rfl).trans e1)
  change List.take (Tryz.prog.cellsOf 22) (List.drop 1 cs) = _ at h1
  rw [show Tryz.prog.cellsOf 22 = 1 from by kernel_rfl] at h1
  obtain ⟨v1, rfl, a1⟩ := u64_nat w1
  exact ⟨(v0, v1), list_2 (by rw [hl, cS]) h0 h1, a0, a1⟩
theorem st_opened {fuel : Nat} {cs : List Value} {x : DataW H × List MemPlace} (h : DataW.trod enc Tryz.prog W base (fun _ => true) held fuel 74 cs = some x) (hs : Sm 74 x.1) : ∃ y : (Int × Int), cs = stE y ∧ stOk y := by
  obtain ⟨xs, n, _, hxe, hl, hlen, hf⟩ := DataW.trod_struct Tryz.underlying74 h
  have hlen' : xs.length = 2 := hlen
  rw [hxe] at hs
  have cS : Tryz.prog.cellsOf 74 = 2 := by kernel_rfl
  obtain ⟨y0, e0⟩ := some_in hlen' (show 0 < 2 by decide)
  obtain ⟨v0, h0, _, w0⟩ := DataW.trod_int Tryz.underlying3 ((hf 0 _ rfl).trans e0)
  change List.take (Tryz.prog.cellsOf 3) (List.drop 0 cs) = _ at h0
  rw [show Tryz.prog.cellsOf 3 = 1 from by kernel_rfl] at h0
  have a0 := i64_in w0
  obtain ⟨y1, e1⟩ := some_in hlen' (show 1 < 2 by decide)
  obtain ⟨v1, h1, _, w1⟩ := DataW.trod_int Tryz.underlying3 ((hf 1 _ rfl).trans e1)
  change List.take (Tryz.prog.cellsOf 3) (List.drop 1 cs) = _ at h1
  rw [show Tryz.prog.cellsOf 3 = 1 from by kernel_rfl] at h1
  have a1 := i64_in w1
  exact ⟨(v0, v1), list_2 (by rw [hl, cS]) h0 h1, a0, a1⟩
theorem tn_opened {fuel : Nat} {cs : List Value} {x : DataW H × List MemPlace} (h : DataW.trod enc Tryz.prog W base (fun _ => true) held fuel 66 cs = some x) (hs : Sm 66 x.1) : ∃ y : Tn, cs = tnE y ∧ tnOk y := by
  obtain ⟨xs, n, _, hxe, hl, hlen, hf⟩ := DataW.trod_struct Tryz.underlying66 h
  have hlen' : xs.length = 6 := hlen
  rw [hxe] at hs
  have cS : Tryz.prog.cellsOf 66 = 6 := by kernel_rfl
  obtain ⟨y0, e0⟩ := some_in hlen' (show 0 < 6 by decide)
  obtain ⟨v0, h0, _, w0⟩ := DataW.trod_int Tryz.underlying3 ((hf 0 _ rfl).trans e0)
  change List.take (Tryz.prog.cellsOf 3) (List.drop 0 cs) = _ at h0
  rw [show Tryz.prog.cellsOf 3 = 1 from by kernel_rfl] at h0
  have a0 := i64_in w0
  obtain ⟨y1, e1⟩ := some_in hlen' (show 1 < 6 by decide)
  obtain ⟨v1, h1, _, w1⟩ := DataW.trod_int Tryz.underlying3 ((hf 1 _ rfl).trans e1)
  change List.take (Tryz.prog.cellsOf 3) (List.drop 1 cs) = _ at h1
  rw [show Tryz.prog.cellsOf 3 = 1 from by kernel_rfl] at h1
  have a1 := i64_in w1
  obtain ⟨y2, e2⟩ := some_in hlen' (show 2 < 6 by decide)
  obtain ⟨v2, h2, _⟩ := DataW.trod_bool Tryz.underlying4 ((hf 2 _ rfl).trans e2)
  change List.take (Tryz.prog.cellsOf 4) (List.drop 2 cs) = _ at h2
  rw [show Tryz.prog.cellsOf 4 = 1 from by kernel_rfl] at h2
  obtain ⟨y3, e3⟩ := some_in hlen' (show 3 < 6 by decide)
  obtain ⟨v3, h3, _, w3⟩ := DataW.trod_int Tryz.underlying3 ((hf 3 _ rfl).trans e3)
  change List.take (Tryz.prog.cellsOf 3) (List.drop 3 cs) = _ at h3
  rw [show Tryz.prog.cellsOf 3 = 1 from by kernel_rfl] at h3
  have a3 := i64_in w3
  obtain ⟨y4, e4⟩ := some_in hlen' (show 4 < 6 by decide)
  obtain ⟨v4, h4, _, w4⟩ := DataW.trod_int Tryz.underlying3 ((hf 4 _ rfl).trans e4)
  change List.take (Tryz.prog.cellsOf 3) (List.drop 4 cs) = _ at h4
  rw [show Tryz.prog.cellsOf 3 = 1 from by kernel_rfl] at h4
  have a4 := i64_in w4
  obtain ⟨y5, e5⟩ := some_in hlen' (show 5 < 6 by decide)
  obtain ⟨v5, h5, _, w5⟩ := DataW.trod_int Tryz.underlying3 ((hf 5 _ rfl).trans e5)
  change List.take (Tryz.prog.cellsOf 3) (List.drop 5 cs) = _ at h5
  rw [show Tryz.prog.cellsOf 3 = 1 from by kernel_rfl] at h5
  have a5 := i64_in w5
  exact ⟨⟨v0, v1, v2, v3, v4, v5⟩, list_6 (by rw [hl, cS]) h0 h1 h2 h3 h4 h5, a0, a1, a3, a4, a5⟩
theorem po_opened {fuel : Nat} {cs : List Value} {x : DataW H × List MemPlace} (h : DataW.trod enc Tryz.prog W base (fun _ => true) held fuel 68 cs = some x) (hs : Sm 68 x.1) : ∃ y : Int, cs = poE y ∧ I64R y := by
  obtain ⟨xs, n, _, hxe, hl, hlen, hf⟩ := DataW.trod_struct Tryz.underlying68 h
  have hlen' : xs.length = 1 := hlen
  rw [hxe] at hs
  have cS : Tryz.prog.cellsOf 68 = 1 := by kernel_rfl
  obtain ⟨y0, e0⟩ := some_in hlen' (show 0 < 1 by decide)
  obtain ⟨v0, h0, _, w0⟩ := DataW.trod_int Tryz.underlying3 ((hf 0 _ rfl).trans e0)
  change List.take (Tryz.prog.cellsOf 3) (List.drop 0 cs) = _ at h0
  rw [show Tryz.prog.cellsOf 3 = 1 from by kernel_rfl] at h0
  have a0 := i64_in w0
  exact ⟨v0, list_1 (by rw [hl, cS]) h0, a0⟩
theorem gd_opened {fuel : Nat} {cs : List Value} {x : DataW H × List MemPlace} (h : DataW.trod enc Tryz.prog W base (fun _ => true) held fuel 70 cs = some x) (hs : Sm 70 x.1) : ∃ y : Gd, cs = gdE y ∧ (gdW y ∧ y.txt.size ≤ reachBytes) := by
  obtain ⟨xs, n, _, hxe, hl, hlen, hf⟩ := DataW.trod_struct Tryz.underlying70 h
  have hlen' : xs.length = 4 := hlen
  rw [hxe] at hs
  have cS : Tryz.prog.cellsOf 70 = 4 := by kernel_rfl
  obtain ⟨y0, e0⟩ := some_in hlen' (show 0 < 4 by decide)
  obtain ⟨v0, h0, _, w0⟩ := DataW.trod_int Tryz.underlying22 ((hf 0 _ rfl).trans e0)
  change List.take (Tryz.prog.cellsOf 22) (List.drop 0 cs) = _ at h0
  rw [show Tryz.prog.cellsOf 22 = 1 from by kernel_rfl] at h0
  obtain ⟨v0, rfl, a0⟩ := u64_nat w0
  obtain ⟨y1, e1⟩ := some_in hlen' (show 1 < 4 by decide)
  obtain ⟨v1, h1, _, w1⟩ := DataW.trod_int Tryz.underlying22 ((hf 1 _ rfl).trans e1)
  change List.take (Tryz.prog.cellsOf 22) (List.drop 1 cs) = _ at h1
  rw [show Tryz.prog.cellsOf 22 = 1 from by kernel_rfl] at h1
  obtain ⟨v1, rfl, a1⟩ := u64_nat w1
  obtain ⟨y2, e2⟩ := some_in hlen' (show 2 < 4 by decide)
  obtain ⟨v2, h2, _, w2⟩ := DataW.trod_int Tryz.underlying5 ((hf 2 _ rfl).trans e2)
  change List.take (Tryz.prog.cellsOf 5) (List.drop 2 cs) = _ at h2
  rw [show Tryz.prog.cellsOf 5 = 1 from by kernel_rfl] at h2
  obtain ⟨v2, rfl, a2⟩ := u8_nat w2
  obtain ⟨y3, e3⟩ := some_in hlen' (show 3 < 4 by decide)
  obtain ⟨v3, h3, x3, _⟩ := DataW.trod_string Tryz.underlying9 ((hf 3 _ rfl).trans e3)
  have s3 := Sm.field Tryz.underlying70 hs (i := 3) rfl e3
  rw [x3] at s3
  have z3 := Sm.str s3
  change List.take (Tryz.prog.cellsOf 9) (List.drop 3 cs) = _ at h3
  rw [show Tryz.prog.cellsOf 9 = 1 from by kernel_rfl] at h3
  exact ⟨⟨v0, v1, v2, v3⟩, list_4 (by rw [hl, cS]) h0 h1 h2 h3, ⟨a0, a1, a2⟩, by rw [Array.length_toList] at z3; exact z3⟩
theorem lk_opened {fuel : Nat} {cs : List Value} {x : DataW H × List MemPlace} (h : DataW.trod enc Tryz.prog W base (fun _ => true) held fuel 72 cs = some x) (hs : Sm 72 x.1) : ∃ y : Lk, cs = lkE y ∧ lkOk y := by
  obtain ⟨xs, n, _, hxe, hl, hlen, hf⟩ := DataW.trod_struct Tryz.underlying72 h
  have hlen' : xs.length = 5 := hlen
  rw [hxe] at hs
  have cS : Tryz.prog.cellsOf 72 = 5 := by kernel_rfl
  obtain ⟨y0, e0⟩ := some_in hlen' (show 0 < 5 by decide)
  obtain ⟨v0, h0, _, w0⟩ := DataW.trod_int Tryz.underlying3 ((hf 0 _ rfl).trans e0)
  change List.take (Tryz.prog.cellsOf 3) (List.drop 0 cs) = _ at h0
  rw [show Tryz.prog.cellsOf 3 = 1 from by kernel_rfl] at h0
  have a0 := i64_in w0
  obtain ⟨y1, e1⟩ := some_in hlen' (show 1 < 5 by decide)
  obtain ⟨v1, h1, _, w1⟩ := DataW.trod_int Tryz.underlying3 ((hf 1 _ rfl).trans e1)
  change List.take (Tryz.prog.cellsOf 3) (List.drop 1 cs) = _ at h1
  rw [show Tryz.prog.cellsOf 3 = 1 from by kernel_rfl] at h1
  have a1 := i64_in w1
  obtain ⟨y2, e2⟩ := some_in hlen' (show 2 < 5 by decide)
  obtain ⟨v2, h2, _, w2⟩ := DataW.trod_int Tryz.underlying3 ((hf 2 _ rfl).trans e2)
  change List.take (Tryz.prog.cellsOf 3) (List.drop 2 cs) = _ at h2
  rw [show Tryz.prog.cellsOf 3 = 1 from by kernel_rfl] at h2
  have a2 := i64_in w2
  obtain ⟨y3, e3⟩ := some_in hlen' (show 3 < 5 by decide)
  obtain ⟨v3, h3, _, w3⟩ := DataW.trod_int Tryz.underlying3 ((hf 3 _ rfl).trans e3)
  change List.take (Tryz.prog.cellsOf 3) (List.drop 3 cs) = _ at h3
  rw [show Tryz.prog.cellsOf 3 = 1 from by kernel_rfl] at h3
  have a3 := i64_in w3
  obtain ⟨y4, e4⟩ := some_in hlen' (show 4 < 5 by decide)
  obtain ⟨v4, h4, _⟩ := DataW.trod_bool Tryz.underlying4 ((hf 4 _ rfl).trans e4)
  change List.take (Tryz.prog.cellsOf 4) (List.drop 4 cs) = _ at h4
  rw [show Tryz.prog.cellsOf 4 = 1 from by kernel_rfl] at h4
  exact ⟨⟨v0, v1, v2, v3, v4⟩, list_5 (by rw [hl, cS]) h0 h1 h2 h3 h4, a0, a1, a2, a3⟩
theorem lane_opened {fuel : Nat} {cs : List Value} {x : DataW H × List MemPlace} (h : DataW.trod enc Tryz.prog W base (fun _ => true) held fuel 75 cs = some x) (hs : Sm 75 x.1) : ∃ v xs, cs = [v] ∧ RowG 2 stE W v xs ∧ (∀ y ∈ xs, stOk y) ∧ xs.length ≤ reachBytes ∧ v.oneCell' = true :=
  haveI : Inhabited (Int × Int) := ⟨(0, 0)⟩
  row_of Tryz.underlying75 (by kernel_rfl) (by decide) (of_decide_eq_true (by kernel_rfl)) (fun n cs x h hs => st_opened h hs) h hs
theorem lanes_opened {fuel : Nat} {cs : List Value} {x : DataW H × List MemPlace} (h : DataW.trod enc Tryz.prog W base (fun _ => true) held fuel 76 cs = some x) (hs : Sm 76 x.1) : ∃ v ls, cs = [v] ∧ LnG W v ls ∧ (∀ l ∈ ls, lnOk l ∧ l.length ≤ reachBytes) ∧ ls.length ≤ reachBytes := by
  obtain ⟨ao, cap, xs, rfl, h1, h2, h3, h4⟩ := row_open (α := List (Int × Int)) (p := fun l cs => ∃ u, cs = [u] ∧ RowG 2 stE W u l ∧ lnOk l ∧ l.length ≤ reachBytes) Tryz.underlying76 (K := 1) (by kernel_rfl) (by decide) (of_decide_eq_true (by kernel_rfl)) (fun n cs x h hs => by
    obtain ⟨v, ys, e, r, o, l, _⟩ := lane_opened h hs
    exact ⟨ys, v, e, r, o, l⟩) h hs
  refine ⟨_, xs, rfl, ⟨ao, cap, rfl, h1, h2, fun i hi => ?_⟩, fun y hy => ?_, h3⟩
  · obtain ⟨b, o, cs', e1, e2, ⟨u, rfl, hr, _⟩, _, e5⟩ := h4 i hi
    have := e5 0 (by decide)
    rw [Nat.mul_one, Nat.add_zero] at this
    exact ⟨b, o, u, e1, this, hr⟩
  · obtain ⟨i, hi, rfl⟩ := List.getElem_of_mem hy
    obtain ⟨_, _, _, _, _, ⟨_, _, _, e4⟩, _⟩ := h4 i hi
    exact e4
theorem sc_opened {fuel : Nat} {cs : List Value} {x : DataW H × List MemPlace} (h : DataW.trod enc Tryz.prog W base (fun _ => true) held fuel 78 cs = some x) (hs : Sm 78 x.1) : ∃ y : Sc, ∃ v, cs = [.int .i64 y.maj, v] ∧ LnG W v y.lanes ∧ scOk y ∧ y.lanes.length ≤ reachBytes ∧ ∀ l ∈ y.lanes, l.length ≤ reachBytes := by
  obtain ⟨xs, n, _, hxe, hl, hlen, hf⟩ := DataW.trod_struct Tryz.underlying78 h
  have hlen' : xs.length = 2 := hlen
  rw [hxe] at hs
  have cS : Tryz.prog.cellsOf 78 = 2 := by kernel_rfl
  obtain ⟨y0, e0⟩ := some_in hlen' (show 0 < 2 by decide)
  obtain ⟨y1, e1⟩ := some_in hlen' (show 1 < 2 by decide)
  obtain ⟨v0, h0, _, w0⟩ := DataW.trod_int Tryz.underlying3 ((hf 0 _ rfl).trans e0)
  obtain ⟨v1, ls, h1, r1, o1, l1⟩ := lanes_opened ((hf 1 _ rfl).trans e1) (Sm.field Tryz.underlying78 hs (i := 1) rfl e1)
  change List.take (Tryz.prog.cellsOf 3) (List.drop 0 cs) = _ at h0
  rw [show Tryz.prog.cellsOf 3 = 1 from by kernel_rfl] at h0
  change List.take (Tryz.prog.cellsOf 76) (List.drop 1 cs) = _ at h1
  rw [show Tryz.prog.cellsOf 76 = 1 from by kernel_rfl] at h1
  exact ⟨⟨v0, ls⟩, v1, list_2 (by rw [hl, cS]) h0 h1, r1, ⟨i64_in w0, fun l hl => (o1 l hl).1⟩, l1, fun l hl => (o1 l hl).2⟩
theorem plans_opened {fuel : Nat} {cs : List Value} {x : DataW H × List MemPlace} (h : DataW.trod enc Tryz.prog W base (fun _ => true) held fuel 30 cs = some x) (hs : Sm 30 x.1) : ∃ v ps, cs = [v] ∧ PlG W v ps ∧ (∀ p ∈ ps, scOk p ∧ p.lanes.length ≤ reachBytes ∧ ∀ l ∈ p.lanes, l.length ≤ reachBytes) ∧ ps.length ≤ reachBytes ∧ v.oneCell' = true := by
  haveI : Inhabited Sc := ⟨⟨0, []⟩⟩
  obtain ⟨ao, cap, xs, rfl, h1, h2, h3, h4⟩ := row_open (α := Sc) (p := fun y cs => ∃ v, cs = [.int .i64 y.maj, v] ∧ LnG W v y.lanes ∧ scOk y ∧ y.lanes.length ≤ reachBytes ∧ ∀ l ∈ y.lanes, l.length ≤ reachBytes) Tryz.underlying30 (K := 2) (by kernel_rfl) (by decide) (of_decide_eq_true (by kernel_rfl)) (fun n cs x h hs => sc_opened h hs) h hs
  refine ⟨_, xs, rfl, ⟨ao, cap, rfl, h1, h2, fun i hi => ?_⟩, fun y hy => ?_, h3, rfl⟩
  · obtain ⟨b, o, cs', e1, e2, ⟨u, rfl, hr, _⟩, _, e5⟩ := h4 i hi
    have c0 := e5 0 (by decide)
    have c1 := e5 1 (by decide)
    rw [Nat.add_zero] at c0
    exact ⟨b, o, u, e1, c0, c1, hr⟩
  · obtain ⟨i, hi, rfl⟩ := List.getElem_of_mem hy
    obtain ⟨_, _, _, _, _, ⟨_, _, _, e4⟩, _⟩ := h4 i hi
    exact e4
theorem tab_opened {fuel : Nat} {cs : List Value} {x : DataW H × List MemPlace} (h : DataW.trod enc Tryz.prog W base (fun _ => true) held fuel 80 cs = some x) : ∃ f : Nat → Nat, (∀ p, p < 512 → cs[p]? = some (.int .u64 (f p : Int))) ∧ tbOk f := by
  have hu : Tryz.prog.underlying 80 = some (.array 512 22) := by kernel_rfl
  obtain ⟨xs, n, _, hxe, hl, hlen, hf⟩ := DataW.trod_array hu h
  have c1 : Tryz.prog.cellsOf 22 = 1 := by kernel_rfl
  obtain ⟨F, hF⟩ := Go.Deep.choose_lt (α := Nat) (n := 512) (p := fun i y => cs[i]? = some (.int .u64 (y : Int)) ∧ y ≤ 18446744073709551615) (fun i hi => by
    obtain ⟨y, e⟩ := some_in hlen hi
    obtain ⟨v, hv, _, wv⟩ := DataW.trod_int Tryz.underlying22 ((hf i hi).trans e)
    rw [c1, Nat.mul_one] at hv
    obtain ⟨v, rfl, a⟩ := u64_nat wv
    refine ⟨v, ?_, a⟩
    have := congrArg (fun l => l[0]?) hv
    simpa [List.getElem?_take, List.getElem?_drop] using this)
  exact ⟨F, fun p hp => (hF p hp).1, fun p hp => (hF p hp).2⟩
theorem tabs_opened {fuel : Nat} {cs : List Value} {x : DataW H × List MemPlace} (h : DataW.trod enc Tryz.prog W base (fun _ => true) held fuel 31 cs = some x) (hs : Sm 31 x.1) : ∃ v fs, cs = [v] ∧ TbG W v fs ∧ (∀ f ∈ fs, tbOk f) ∧ fs.length ≤ reachBytes ∧ v.oneCell' = true := by
  obtain ⟨ao, cap, xs, rfl, h1, h2, h3, h4⟩ := row_open (α := Nat → Nat) (p := fun f cs => (∀ p, p < 512 → cs[p]? = some (.int .u64 (f p : Int))) ∧ tbOk f) Tryz.underlying31 (K := 512) (by kernel_rfl) (by decide) (of_decide_eq_true (by kernel_rfl)) (fun n cs x h hs => tab_opened h) h hs
  refine ⟨_, xs, rfl, ⟨ao, cap, rfl, h1, h2, fun i hi => ?_⟩, fun y hy => ?_, h3, rfl⟩
  · obtain ⟨b, o, cs', e1, e2, ⟨hp, _⟩, _, e5⟩ := h4 i hi
    exact ⟨b, o, e1, fun p hp' => (e5 p hp').trans (hp p hp')⟩
  · obtain ⟨i, hi, rfl⟩ := List.getElem_of_mem hy
    obtain ⟨_, _, _, _, _, ⟨_, e4⟩, _⟩ := h4 i hi
    exact e4
theorem rgs_opened {fuel : Nat} {cs : List Value} {x : DataW H × List MemPlace} (h : DataW.trod enc Tryz.prog W base (fun _ => true) held fuel 23 cs = some x) (hs : Sm 23 x.1) : ∃ v xs, cs = [v] ∧ RowG 2 rgE W v xs ∧ (∀ y ∈ xs, rgOk y) ∧ xs.length ≤ reachBytes ∧ v.oneCell' = true :=
  haveI : Inhabited Rg := ⟨(0, 0)⟩
  row_of (ok := fun y => rgOk y) Tryz.underlying23 (by kernel_rfl) (by decide) (of_decide_eq_true (by kernel_rfl)) (fun n cs x h hs => rg_opened h hs) h hs
theorem tns_opened {fuel : Nat} {cs : List Value} {x : DataW H × List MemPlace} (h : DataW.trod enc Tryz.prog W base (fun _ => true) held fuel 26 cs = some x) (hs : Sm 26 x.1) : ∃ v xs, cs = [v] ∧ RowG 6 tnE W v xs ∧ (∀ y ∈ xs, tnOk y) ∧ xs.length ≤ reachBytes ∧ v.oneCell' = true :=
  haveI : Inhabited Tn := ⟨⟨0, 0, false, 0, 0, 0⟩⟩
  row_of (ok := fun y => tnOk y) Tryz.underlying26 (by kernel_rfl) (by decide) (of_decide_eq_true (by kernel_rfl)) (fun n cs x h hs => tn_opened h hs) h hs
theorem pos_opened {fuel : Nat} {cs : List Value} {x : DataW H × List MemPlace} (h : DataW.trod enc Tryz.prog W base (fun _ => true) held fuel 27 cs = some x) (hs : Sm 27 x.1) : ∃ v xs, cs = [v] ∧ RowG 1 poE W v xs ∧ (∀ y ∈ xs, I64R y) ∧ xs.length ≤ reachBytes ∧ v.oneCell' = true :=
  haveI : Inhabited Int := ⟨0⟩
  row_of (ok := fun y => I64R y) Tryz.underlying27 (by kernel_rfl) (by decide) (of_decide_eq_true (by kernel_rfl)) (fun n cs x h hs => po_opened h hs) h hs
theorem gds_opened {fuel : Nat} {cs : List Value} {x : DataW H × List MemPlace} (h : DataW.trod enc Tryz.prog W base (fun _ => true) held fuel 28 cs = some x) (hs : Sm 28 x.1) : ∃ v xs, cs = [v] ∧ RowG 4 gdE W v xs ∧ (∀ y ∈ xs, (gdW y ∧ y.txt.size ≤ reachBytes)) ∧ xs.length ≤ reachBytes ∧ v.oneCell' = true :=
  haveI : Inhabited Gd := ⟨⟨0, 0, 0, .empty⟩⟩
  row_of (ok := fun y => (gdW y ∧ y.txt.size ≤ reachBytes)) Tryz.underlying28 (by kernel_rfl) (by decide) (of_decide_eq_true (by kernel_rfl)) (fun n cs x h hs => gd_opened h hs) h hs
theorem lks_opened {fuel : Nat} {cs : List Value} {x : DataW H × List MemPlace} (h : DataW.trod enc Tryz.prog W base (fun _ => true) held fuel 29 cs = some x) (hs : Sm 29 x.1) : ∃ v xs, cs = [v] ∧ RowG 5 lkE W v xs ∧ (∀ y ∈ xs, lkOk y) ∧ xs.length ≤ reachBytes ∧ v.oneCell' = true :=
  haveI : Inhabited Lk := ⟨⟨0, 0, 0, 0, false⟩⟩
  row_of (ok := fun y => lkOk y) Tryz.underlying29 (by kernel_rfl) (by decide) (of_decide_eq_true (by kernel_rfl)) (fun n cs x h hs => lk_opened h hs) h hs
theorem bus_opened {fuel : Nat} {cs : List Value} {x : DataW H × List MemPlace} (h : DataW.trod enc Tryz.prog W base (fun _ => true) held fuel 25 cs = some x) (hs : Sm 25 x.1) : ∃ u v xs ys, cs = [u, v] ∧ RowG 2 rgE W u xs ∧ (∀ y ∈ xs, rgOk y) ∧ xs.length ≤ reachBytes ∧ u.oneCell' = true ∧ RowG 2 rgE W v ys ∧ (∀ y ∈ ys, rgOk y) ∧ ys.length ≤ reachBytes ∧ v.oneCell' = true := by
  obtain ⟨xs, n, _, hxe, hl, hlen, hf⟩ := DataW.trod_struct Tryz.underlying25 h
  have hlen' : xs.length = 2 := hlen
  rw [hxe] at hs
  have cS : Tryz.prog.cellsOf 25 = 2 := by kernel_rfl
  obtain ⟨y0, e0⟩ := some_in hlen' (show 0 < 2 by decide)
  obtain ⟨y1, e1⟩ := some_in hlen' (show 1 < 2 by decide)
  obtain ⟨v0, l0, h0, r0, o0, b0, c0⟩ := rgs_opened ((hf 0 _ rfl).trans e0) (Sm.field Tryz.underlying25 hs (i := 0) rfl e0)
  obtain ⟨v1, l1, h1, r1, o1, b1, c1⟩ := rgs_opened ((hf 1 _ rfl).trans e1) (Sm.field Tryz.underlying25 hs (i := 1) rfl e1)
  change List.take (Tryz.prog.cellsOf 23) (List.drop 0 cs) = _ at h0
  change List.take (Tryz.prog.cellsOf 23) (List.drop 1 cs) = _ at h1
  rw [show Tryz.prog.cellsOf 23 = 1 from by kernel_rfl] at h0 h1
  exact ⟨v0, v1, l0, l1, list_2 (by rw [hl, cS]) h0 h1, r0, o0, b0, c0, r1, o1, b1, c1⟩
theorem list_im {cs : List Value} {x0 x1 x2 x3 x4 x5 x6 x7 x8 x9 x10 x11 : Value} (h : cs.length = 12) (h0 : (cs.drop 0).take 1 = [x0]) (h1 : (cs.drop 1).take 2 = [x1, x2]) (h3 : (cs.drop 3).take 1 = [x3]) (h4 : (cs.drop 4).take 1 = [x4]) (h5 : (cs.drop 5).take 1 = [x5]) (h6 : (cs.drop 6).take 1 = [x6]) (h7 : (cs.drop 7).take 1 = [x7]) (h8 : (cs.drop 8).take 1 = [x8]) (h9 : (cs.drop 9).take 1 = [x9]) (h10 : (cs.drop 10).take 1 = [x10]) (h11 : (cs.drop 11).take 1 = [x11]) : cs = [x0, x1, x2, x3, x4, x5, x6, x7, x8, x9, x10, x11] := by
  obtain ⟨a0, a1, a2, a3, a4, a5, a6, a7, a8, a9, b0, b1, rfl⟩ := list12 h
  simp_all
set_option maxRecDepth 100000 in
theorem im_opened {fuel : Nat} {cs : List Value} {x : DataW H × List MemPlace} (h : DataW.trod enc Tryz.prog W base (fun _ => true) held fuel 33 cs = some x) (hs : Sm 33 x.1) : ∃ I, ImW W cs I := by
  obtain ⟨xs, n, _, hxe, hl, hlen, hf⟩ := DataW.trod_struct Tryz.underlying33 h
  have hlen' : xs.length = 11 := hlen
  rw [hxe] at hs
  have cS : Tryz.prog.cellsOf 33 = 12 := by kernel_rfl
  obtain ⟨y0, e0⟩ := some_in hlen' (show 0 < 11 by decide)
  obtain ⟨v0, h0, _, w0⟩ := DataW.trod_int Tryz.underlying22 ((hf 0 _ rfl).trans e0)
  change List.take (Tryz.prog.cellsOf 22) (List.drop 0 cs) = _ at h0
  rw [show Tryz.prog.cellsOf 22 = 1 from by kernel_rfl] at h0
  obtain ⟨y1, e1⟩ := some_in hlen' (show 1 < 11 by decide)
  obtain ⟨v1, v2, l1, l2, h1, r1, o1, b1, c1, r2, o2, b2, c2⟩ := bus_opened ((hf 1 _ rfl).trans e1) (Sm.field Tryz.underlying33 hs (i := 1) rfl e1)
  change List.take (Tryz.prog.cellsOf 25) (List.drop 1 cs) = _ at h1
  rw [show Tryz.prog.cellsOf 25 = 2 from by kernel_rfl] at h1
  obtain ⟨y2, e2⟩ := some_in hlen' (show 2 < 11 by decide)
  obtain ⟨v3, l3, h3, r3, o3, b3, c3⟩ := tns_opened ((hf 2 _ rfl).trans e2) (Sm.field Tryz.underlying33 hs (i := 2) rfl e2)
  change List.take (Tryz.prog.cellsOf 26) (List.drop 3 cs) = _ at h3
  rw [show Tryz.prog.cellsOf 26 = 1 from by kernel_rfl] at h3
  obtain ⟨y3, e3⟩ := some_in hlen' (show 3 < 11 by decide)
  obtain ⟨v4, l4, h4, r4, o4, b4, c4⟩ := pos_opened ((hf 3 _ rfl).trans e3) (Sm.field Tryz.underlying33 hs (i := 3) rfl e3)
  change List.take (Tryz.prog.cellsOf 27) (List.drop 4 cs) = _ at h4
  rw [show Tryz.prog.cellsOf 27 = 1 from by kernel_rfl] at h4
  obtain ⟨y4, e4⟩ := some_in hlen' (show 4 < 11 by decide)
  obtain ⟨v5, l5, h5, r5, o5, b5, c5⟩ := gds_opened ((hf 4 _ rfl).trans e4) (Sm.field Tryz.underlying33 hs (i := 4) rfl e4)
  change List.take (Tryz.prog.cellsOf 28) (List.drop 5 cs) = _ at h5
  rw [show Tryz.prog.cellsOf 28 = 1 from by kernel_rfl] at h5
  obtain ⟨y5, e5⟩ := some_in hlen' (show 5 < 11 by decide)
  obtain ⟨v6, l6, h6, r6, o6, b6, c6⟩ := lks_opened ((hf 5 _ rfl).trans e5) (Sm.field Tryz.underlying33 hs (i := 5) rfl e5)
  change List.take (Tryz.prog.cellsOf 29) (List.drop 6 cs) = _ at h6
  rw [show Tryz.prog.cellsOf 29 = 1 from by kernel_rfl] at h6
  obtain ⟨y6, e6⟩ := some_in hlen' (show 6 < 11 by decide)
  obtain ⟨v7, l7, h7, r7, o7, b7, c7⟩ := lks_opened ((hf 6 _ rfl).trans e6) (Sm.field Tryz.underlying33 hs (i := 6) rfl e6)
  change List.take (Tryz.prog.cellsOf 29) (List.drop 7 cs) = _ at h7
  rw [show Tryz.prog.cellsOf 29 = 1 from by kernel_rfl] at h7
  obtain ⟨y7, e7⟩ := some_in hlen' (show 7 < 11 by decide)
  obtain ⟨v8, l8, h8, r8, o8, b8, c8⟩ := plans_opened ((hf 7 _ rfl).trans e7) (Sm.field Tryz.underlying33 hs (i := 7) rfl e7)
  change List.take (Tryz.prog.cellsOf 30) (List.drop 8 cs) = _ at h8
  rw [show Tryz.prog.cellsOf 30 = 1 from by kernel_rfl] at h8
  obtain ⟨y8, e8⟩ := some_in hlen' (show 8 < 11 by decide)
  obtain ⟨v9, h9, _, w9⟩ := DataW.trod_int Tryz.underlying3 ((hf 8 _ rfl).trans e8)
  change List.take (Tryz.prog.cellsOf 3) (List.drop 9 cs) = _ at h9
  rw [show Tryz.prog.cellsOf 3 = 1 from by kernel_rfl] at h9
  obtain ⟨y9, e9⟩ := some_in hlen' (show 9 < 11 by decide)
  obtain ⟨v10, h10, _, w10⟩ := DataW.trod_int Tryz.underlying3 ((hf 9 _ rfl).trans e9)
  change List.take (Tryz.prog.cellsOf 3) (List.drop 10 cs) = _ at h10
  rw [show Tryz.prog.cellsOf 3 = 1 from by kernel_rfl] at h10
  obtain ⟨y10, e10⟩ := some_in hlen' (show 10 < 11 by decide)
  obtain ⟨v11, l11, h11, r11, o11, b11, c11⟩ := tabs_opened ((hf 10 _ rfl).trans e10) (Sm.field Tryz.underlying33 hs (i := 10) rfl e10)
  change List.take (Tryz.prog.cellsOf 31) (List.drop 11 cs) = _ at h11
  rw [show Tryz.prog.cellsOf 31 = 1 from by kernel_rfl] at h11
  obtain ⟨v0, rfl, a0⟩ := u64_nat w0
  have a9 := i64_in w9
  have a10 := i64_in w10
  have ci : ∀ k n, (Value.int k n).oneCell' = true := fun _ _ => rfl
  have hcs := list_im (by rw [hl, cS]) h0 h1 h3 h4 h5 h6 h7 h8 h9 h10 h11
  have hr : reachBytes = 140737488351232 := rfl
  rw [hr] at b1 b2 b3 b4 b5 b6 b7 b8 b11
  rw [hcs]
  exact ⟨⟨v0, l1, l2, l3, l4, l5, l6, l7, l8, v9, v10, l11⟩, ⟨rfl, a0⟩, ⟨v1, rfl, r1, o1⟩, ⟨v2, rfl, r2, o2⟩, ⟨v3, rfl, r3, o3⟩, ⟨v4, rfl, r4, o4⟩, ⟨v5, rfl, r5, fun x hx => (o5 x hx).1⟩, ⟨v6, rfl, r6, o6⟩, ⟨v7, rfl, r7, o7⟩, ⟨v8, rfl, r8, fun x hx => (o8 x hx).1⟩, ⟨rfl, a9⟩, ⟨rfl, a10⟩, ⟨v11, rfl, r11, o11⟩, rfl, by simp [c1, c2, c3, c4, c5, c6, c7, c8, c11, ci],
    ⟨by simp only; omega, by simp only; omega, by simp only; omega, by simp only; omega, by simp only; omega, by simp only; omega, by simp only; omega, by simp only; omega, by simp only; omega, fun x hx => by have := (o5 x hx).2; omega, fun p hp => by
      have := (o8 p hp).2
      exact ⟨by have := this.1; omega, fun l hl => by have := this.2 l hl; omega⟩⟩⟩
end
end Go.Proofs.YtmfkggngjeolcaaGreatDoor
