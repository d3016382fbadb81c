import Derived.Test.YtmfkggngjeolcaaGreatDoorPk27
import Derived.Test.YtmfkggngjeolcaaGreatDoorPk28
import Derived.Great.BuildSlice
import Derived.Great.FillDense
import Derived.Laws.Tables
import Derived.Laws.CopyOwn
set_option linter.unusedSimpArgs false
set_option linter.unusedVariables false
set_option maxHeartbeats 8000000
set_option maxRecDepth 100000
namespace Go.Proofs.YtmfkggngjeolcaaGreatDoor
open Go.RowKit Bn
def rsz : List Gd → Nat
 | [] => 0
 | g :: gs => 1 + g.txt.size + rsz gs
def lsz : List (List (Int × Int)) → Nat
 | [] => 0
 | l :: ls => 1 + l.length + lsz ls
def plsz : List Sc → Nat
 | [] => 0
 | p :: ps => lsz p.lanes + plsz ps
def memI (I : Im) : Nat := I.rams.length + I.devs.length + I.subs.length + I.ports.length + I.chs.length + I.irqs.length + I.plans.length + I.tabs.length
def cntI (I : Im) : Nat := memI I + rsz I.regs + plsz I.plans
theorem rsz_mem : ∀ (xs : List Gd) (x : Gd), x ∈ xs → x.txt.size ≤ rsz xs
 | g :: gs, x, h => by
  rcases List.mem_cons.1 h with rfl | h
  ·rw [rsz]; omega
  ·have := rsz_mem gs x h; rw [rsz]; omega
structure ImL (I : Im) : Prop where
 rams : I.rams.length ≤ 1125899906842624
 devs : I.devs.length ≤ 1125899906842624
 subs : I.subs.length ≤ 1125899906842624
 ports : I.ports.length ≤ 1125899906842624
 regs : I.regs.length ≤ 1125899906842624
 chs : I.chs.length ≤ 1125899906842624
 irqs : I.irqs.length ≤ 1125899906842624
 plans : I.plans.length ≤ 1125899906842624
 tabs : I.tabs.length ≤ 1125899906842624
 txt : ∀ x ∈ I.regs, x.txt.size ≤ 1125899906842624
 lanes : ∀ p ∈ I.plans, p.lanes.length ≤ 1125899906842624 ∧ ∀ l ∈ p.lanes, l.length ≤ 1125899906842624
def gdW (x : Gd) : Prop := x.ad ≤ 18446744073709551615 ∧ x.sz ≤ 18446744073709551615 ∧ x.fill ≤ 255
structure ImW (w : World) (im : List Value) (I : Im) : Prop where
 base : im[0]? = some (.int .u64 (I.base : Int)) ∧ I.base ≤ 18446744073709551615
 rams : ∃ v, im[1]? = some v ∧ RowG 2 rgE w v I.rams ∧ ∀ x ∈ I.rams, rgOk x
 devs : ∃ v, im[2]? = some v ∧ RowG 2 rgE w v I.devs ∧ ∀ x ∈ I.devs, rgOk x
 subs : ∃ v, im[3]? = some v ∧ RowG 6 tnE w v I.subs ∧ ∀ x ∈ I.subs, tnOk x
 ports : ∃ v, im[4]? = some v ∧ RowG 1 poE w v I.ports ∧ ∀ x ∈ I.ports, I64R x
 regs : ∃ v, im[5]? = some v ∧ RowG 4 gdE w v I.regs ∧ ∀ x ∈ I.regs, gdW x
 chs : ∃ v, im[6]? = some v ∧ RowG 5 lkE w v I.chs ∧ ∀ x ∈ I.chs, lkOk x
 irqs : ∃ v, im[7]? = some v ∧ RowG 5 lkE w v I.irqs ∧ ∀ x ∈ I.irqs, lkOk x
 plans : ∃ v, im[8]? = some v ∧ PlG w v I.plans ∧ ∀ x ∈ I.plans, scOk x
 master : im[9]? = some (.int .i64 I.master) ∧ I64R I.master
 start : im[10]? = some (.int .i64 I.start) ∧ I64R I.start
 tabs : ∃ v, im[11]? = some v ∧ TbG w v I.tabs ∧ ∀ x ∈ I.tabs, tbOk x
 len : im.length = 12
 one : im.toArray.all (·.oneCell') = true
 short : ImL I
theorem ImW.below {w w' : World} {im : List Value} {I : Im} (h : ImW w im I) (hb : Below w.heap.size w w') : ImW w' im I := by
 obtain ⟨h1, ⟨v2, a2, b2, c2⟩, ⟨v3, a3, b3, c3⟩, ⟨v4, a4, b4, c4⟩, ⟨v5, a5, b5, c5⟩, ⟨v6, a6, b6, c6⟩, ⟨v7, a7, b7, c7⟩, ⟨v8, a8, b8, c8⟩, ⟨v9, a9, b9, c9⟩, h10, h11, ⟨v12, a12, b12, c12⟩, hl, ho, hs⟩ := h;exact ⟨h1, ⟨v2, a2, b2.below hb, c2⟩, ⟨v3, a3, b3.below hb, c3⟩, ⟨v4, a4, b4.below hb, c4⟩, ⟨v5, a5, b5.below hb, c5⟩, ⟨v6, a6, b6.below hb, c6⟩, ⟨v7, a7, b7.below hb, c7⟩, ⟨v8, a8, b8.below hb, c8⟩, ⟨v9, a9, b9.below hb, c9⟩, h10, h11, ⟨v12, a12, b12.below hb, c12⟩, hl, ho, hs⟩
theorem ImW.a {w : World} {im : List Value} {I : Im} (h : ImW w im I) (hc : cntI I < 4000000) : ImA w im I := by
 obtain ⟨h1, h2, h3, h4, h5, ⟨v6, a6, b6, c6⟩, h7, h8, h9, h10, h11, h12, hl, ho, hs⟩ := h;exact ⟨h1, h2, h3, h4, h5, ⟨v6, a6, b6, fun x hx => ⟨(c6 x hx).1, (c6 x hx).2.1, (c6 x hx).2.2, by have := rsz_mem I.regs x hx; unfold cntI at hc; omega⟩⟩, h7, h8, h9, h10, h11, h12, hl, ho⟩
def HV (I : Im) (w : World) (e : Ending) (w' : World) : Prop := ∃ r : Bool, e = .returned (.bool r) ∧ (r = false → cntI I < 4000000) ∧ Below w.heap.size w w'
theorem HV.yes {I : Im} {w w' : World} (hb : Below w.heap.size w w') : HV I w (.returned (.bool true)) w' := ⟨true, rfl, (fun h => by cases h), hb⟩
theorem HV.no {I : Im} {w w' : World} (h : cntI I < 4000000) (hb : Below w.heap.size w w') : HV I w (.returned (.bool false)) w' := ⟨false, rfl, (fun _ => h), hb⟩
end Go.Proofs.YtmfkggngjeolcaaGreatDoor
namespace Go.Proofs.YtmfkggngjeolcaaGreatDoor
open Go.RowKit Bn
def tA : Nat → Nat := fun p => if p = 0 then 1 else if p = 1 then 2 else if p = 2 then 3 else 0
def tB : Nat → Nat := fun p => if p = 511 then 7 else 0
def tAB : Array Value := ((tabV tA).toList ++ (tabV tB).toList).toArray
def smallI (m : Bool) : Im := ⟨8192, [(4096, 65536)], [(1073741824, 4096)], [⟨3, 1, true, 1, -1, 63⟩], [-1], [⟨4096, 4096, 255, ⟨#[102, 105, 114, 115, 116]⟩⟩], [⟨0, -1, 4, 7, false⟩], [⟨0, 0, 1, 9, m⟩], [⟨100, [[(0, 99), (-1, 1)], []]⟩], -1, 0, [tA, tB]⟩
theorem bs_run {t e : TypeId} {len sz : Nat} {z : Value} {parts : Array (Nat × Value)} {cells : Array Value} (hu : Tryz.prog.underlying t = some (.slice e)) (hi : (Tryz.prog.info? e).map (fun i => (i.zero, i.size)) = some (some z, sz)) (h1 : ¬ len * sz > 2 ^ 24) (h2 : ¬ len * sz = 0) (hf : Instr.fill (fun i => some (i * sz, sz)) ((Array.range (len * sz)).map (z.cells[· % z.cells.size]!)) parts.toList = some cells) (W : World) : (Instr.buildSlice t len parts).run Tryz.prog W = .ok (.slice (some ⟨W.heap.size, 0, none⟩) len len) (W.alloc (.cells cells e)) := by
 obtain ⟨ie, hie, he⟩ := Option.map_eq_some_iff.1 hi;simp only [Prod.mk.injEq] at he;obtain ⟨hz, hs⟩ := he;subst hs;exact run_buildSlice W t e len parts cells ie z hu hie hz h1 h2 hf
theorem wpList_bs {ops : Array Oper} {rest : List Oper} {oo : Oper} {a : Act} {w : World} {Q : Exit → Act → World → Prop} (hgd : oo.guard = none) {t e : TypeId} {len : Nat} (parts : Array (Nat × Operand)) (ho : oo.op = .buildSlice t len parts) (vals : Array (Nat × Value)) (hv : (parts.map fun (i, x) => (i, a.eval x)) = vals) {n : Nat} (hn : w.heap.size = n) {q : Array Value} (hr : ∀ W, (Instr.buildSlice t len vals).run Tryz.prog W = .ok (.slice (some ⟨W.heap.size, 0, none⟩) len len) (W.alloc (.cells q e))) (h : ∀ W', W'.heap.size = n + 1 → Hid (W'.heap[n]? = some (.cells q e (0, 0))) → Hid (Below n w W') → wpList Tryz.prog ops Q rest (a.put oo.dst (.slice (some ⟨n, 0, none⟩) len len)) W') : wpList Tryz.prog ops Q (oo :: rest) a w :=
 wpList_plain hgd fun K hK => by
  subst hn;unfold Oper.wp execOp;simp only [ho, Sem.run_bind, Sem.run_pure, Result.andThen_ok, hv, hr];exact hK _ _ (h _ (by simp) (heap_alloc_new w _) ((Below.refl _ _).alloc (Nat.le_refl _) _))
theorem tA_build (W : World) : (Instr.build 80 #[(0, .int .u64 1), (1, .int .u64 2), (2, .int .u64 3)]).run Tryz.prog W = .ok (.agg (tabV tA)) W := run_build W _ _ _ (by kernel_rfl)
theorem tB_build (W : World) : (Instr.build 80 #[(511, .int .u64 7)]).run Tryz.prog W = .ok (.agg (tabV tB)) W := run_build W _ _ _ (by kernel_rfl)
theorem tAB_slice (W : World) : (Instr.buildSlice 31 2 #[(0, .agg (tabV tA)), (1, .agg (tabV tB))]).run Tryz.prog W = .ok (.slice (some ⟨W.heap.size, 0, none⟩) 2 2) (W.alloc (.cells tAB 80)) := by
 have hi : (Tryz.prog.info? 80).map (fun i => (i.zero, i.size)) = some (some (.agg (tabV fun _ => 0)), 512) := by kernel_rfl
 have s0 := tabV_size (fun _ => 0);have s1 := tabV_size tA;have s2 := tabV_size tB;unfold tAB;generalize tabV (fun _ => 0) = Z at hi s0;generalize tabV tA = Q1 at *;generalize tabV tB = Q2 at *;refine bs_run Tryz.underlying31 hi (by decide) (by decide) ?_ W;have h := Go.Great.fill_whole (s := 512) (by decide) [.agg Q1, .agg Q2] ((Array.range (2 * 512)).map ((Value.agg Z).cells[· % (Value.agg Z).cells.size]!)) (fun v hv => by
  rcases List.mem_cons.1 hv with rfl | hv
  ·exact s1
  ·rw [List.mem_singleton.1 hv]; exact s2) (by simp)
 have e : ([Value.agg Q1, .agg Q2].flatMap fun v => v.cells.toList).toArray = (Q1.toList ++ Q2.toList).toArray := by
  show (Q1.toList ++ (Q2.toList ++ [])).toArray = _
  rw [List.append_nil]
 rw [e] at h;exact h
theorem s1_slice (W : World) : (Instr.buildSlice 23 1 #[(0, .agg #[.int .u64 4096, .int .u64 65536])]).run Tryz.prog W = .ok (.slice (some ⟨W.heap.size, 0, none⟩) 1 1) (W.alloc (.cells #[.int .u64 4096, .int .u64 65536] 64)) :=
 bs_run (sz := 2) (z := .agg #[.int .u64 0, .int .u64 0]) Tryz.underlying23 (by kernel_rfl) (by decide) (by decide) (by kernel_rfl) W
theorem s2_slice (W : World) : (Instr.buildSlice 23 1 #[(0, .agg #[.int .u64 1073741824, .int .u64 4096])]).run Tryz.prog W = .ok (.slice (some ⟨W.heap.size, 0, none⟩) 1 1) (W.alloc (.cells #[.int .u64 1073741824, .int .u64 4096] 64)) :=
 bs_run (sz := 2) (z := .agg #[.int .u64 0, .int .u64 0]) Tryz.underlying23 (by kernel_rfl) (by decide) (by decide) (by kernel_rfl) W
theorem s3_slice (W : World) : (Instr.buildSlice 26 1 #[(0, .agg #[.int .i64 (3), .int .i64 (1), .bool true, .int .i64 (1), .int .i64 (-1), .int .i64 (63)])]).run Tryz.prog W = .ok (.slice (some ⟨W.heap.size, 0, none⟩) 1 1) (W.alloc (.cells #[.int .i64 (3), .int .i64 (1), .bool true, .int .i64 (1), .int .i64 (-1), .int .i64 (63)] 66)) :=
 bs_run (sz := 6) (z := .agg #[.int .i64 (0), .int .i64 (0), .bool false, .int .i64 (0), .int .i64 (0), .int .i64 (0)]) Tryz.underlying26 (by kernel_rfl) (by decide) (by decide) (by kernel_rfl) W
theorem s4_slice (W : World) : (Instr.buildSlice 27 1 #[(0, .agg #[.int .i64 (-1)])]).run Tryz.prog W = .ok (.slice (some ⟨W.heap.size, 0, none⟩) 1 1) (W.alloc (.cells #[.int .i64 (-1)] 68)) :=
 bs_run (sz := 1) (z := .agg #[.int .i64 (0)]) Tryz.underlying27 (by kernel_rfl) (by decide) (by decide) (by kernel_rfl) W
theorem s5_slice (W : World) : (Instr.buildSlice 28 1 #[(0, .agg #[.int .u64 4096, .int .u64 4096, .int .u8 255, .string ⟨#[102, 105, 114, 115, 116]⟩])]).run Tryz.prog W = .ok (.slice (some ⟨W.heap.size, 0, none⟩) 1 1) (W.alloc (.cells #[.int .u64 4096, .int .u64 4096, .int .u8 255, .string ⟨#[102, 105, 114, 115, 116]⟩] 70)) :=
 bs_run (sz := 4) (z := .agg #[.int .u64 0, .int .u64 0, .int .u8 0, .string ⟨#[]⟩]) Tryz.underlying28 (by kernel_rfl) (by decide) (by decide) (by kernel_rfl) W
theorem s6_slice (W : World) : (Instr.buildSlice 29 1 #[(0, .agg #[.int .i64 (0), .int .i64 (-1), .int .i64 (4), .int .i64 (7), .bool false])]).run Tryz.prog W = .ok (.slice (some ⟨W.heap.size, 0, none⟩) 1 1) (W.alloc (.cells #[.int .i64 (0), .int .i64 (-1), .int .i64 (4), .int .i64 (7), .bool false] 72)) :=
 bs_run (sz := 5) (z := .agg #[.int .i64 (0), .int .i64 (0), .int .i64 (0), .int .i64 (0), .bool false]) Tryz.underlying29 (by kernel_rfl) (by decide) (by decide) (by kernel_rfl) W
theorem s7_slice (W : World) : (Instr.buildSlice 29 1 #[(0, .agg #[.int .i64 (0), .int .i64 (0), .int .i64 (1), .int .i64 (9), .bool true])]).run Tryz.prog W = .ok (.slice (some ⟨W.heap.size, 0, none⟩) 1 1) (W.alloc (.cells #[.int .i64 (0), .int .i64 (0), .int .i64 (1), .int .i64 (9), .bool true] 72)) :=
 bs_run (sz := 5) (z := .agg #[.int .i64 (0), .int .i64 (0), .int .i64 (0), .int .i64 (0), .bool false]) Tryz.underlying29 (by kernel_rfl) (by decide) (by decide) (by kernel_rfl) W
theorem s8_slice (W : World) : (Instr.buildSlice 75 2 #[(0, .agg #[.int .i64 (0), .int .i64 (99)]), (1, .agg #[.int .i64 (-1), .int .i64 (1)])]).run Tryz.prog W = .ok (.slice (some ⟨W.heap.size, 0, none⟩) 2 2) (W.alloc (.cells #[.int .i64 (0), .int .i64 (99), .int .i64 (-1), .int .i64 (1)] 74)) :=
 bs_run (sz := 2) (z := .agg #[.int .i64 (0), .int .i64 (0)]) Tryz.underlying75 (by kernel_rfl) (by decide) (by decide) (by kernel_rfl) W
theorem s9_slice (B : Nat) (W : World) : (Instr.buildSlice 76 2 #[(0, .slice (some ⟨B + 8, 0, none⟩) 2 2), (1, .slice none 0 0)]).run Tryz.prog W = .ok (.slice (some ⟨W.heap.size, 0, none⟩) 2 2) (W.alloc (.cells #[.slice (some ⟨B + 8, 0, none⟩) 2 2, .slice none 0 0] 75)) :=
 bs_run (sz := 1) (z := .slice none 0 0) Tryz.underlying76 (by kernel_rfl) (by decide) (by decide) (by kernel_rfl) W
theorem s10_slice (B : Nat) (W : World) : (Instr.buildSlice 30 1 #[(0, .agg #[.int .i64 (100), .slice (some ⟨B + 9, 0, none⟩) 2 2])]).run Tryz.prog W = .ok (.slice (some ⟨W.heap.size, 0, none⟩) 1 1) (W.alloc (.cells #[.int .i64 (100), .slice (some ⟨B + 9, 0, none⟩) 2 2] 78)) :=
 bs_run (sz := 2) (z := .agg #[.int .i64 (0), .slice none 0 0]) Tryz.underlying30 (by kernel_rfl) (by decide) (by decide) (by kernel_rfl) W
def smIm (B : Nat) : List Value := [.int .u64 8192, .slice (some ⟨B + 1, 0, none⟩) 1 1, .slice (some ⟨B + 2, 0, none⟩) 1 1, .slice (some ⟨B + 3, 0, none⟩) 1 1, .slice (some ⟨B + 4, 0, none⟩) 1 1, .slice (some ⟨B + 5, 0, none⟩) 1 1, .slice (some ⟨B + 6, 0, none⟩) 1 1, .slice (some ⟨B + 7, 0, none⟩) 1 1, .slice (some ⟨B + 10, 0, none⟩) 1 1, .int .i64 (-1), .int .i64 (0), .slice (some ⟨B + 11, 0, none⟩) 2 2]
theorem im_build (B : Nat) (W : World) : (Instr.build 33 #[(0, .int .u64 8192), (1, .agg #[.slice (some ⟨B + 1, 0, none⟩) 1 1, .slice (some ⟨B + 2, 0, none⟩) 1 1]), (2, .slice (some ⟨B + 3, 0, none⟩) 1 1), (3, .slice (some ⟨B + 4, 0, none⟩) 1 1), (4, .slice (some ⟨B + 5, 0, none⟩) 1 1), (5, .slice (some ⟨B + 6, 0, none⟩) 1 1), (6, .slice (some ⟨B + 7, 0, none⟩) 1 1), (7, .slice (some ⟨B + 10, 0, none⟩) 1 1), (8, .int .i64 (-1)), (9, .int .i64 (0)), (10, .slice (some ⟨B + 11, 0, none⟩) 2 2)]).run Tryz.prog W = .ok (.agg (smIm B).toArray) W := run_build W _ _ _ (by kernel_rfl)
theorem smIm_one (B : Nat) : (smIm B).toArray.all (·.oneCell') = true := by simp [smIm, Value.oneCell']
structure SmA (w : World) (B : Nat) (m : Bool) : Prop where
 h1 : w.heap[B + 1]? = some (.cells #[.int .u64 4096, .int .u64 65536] 64 (0, 0))
 h2 : w.heap[B + 2]? = some (.cells #[.int .u64 1073741824, .int .u64 4096] 64 (0, 0))
 h3 : w.heap[B + 3]? = some (.cells #[.int .i64 (3), .int .i64 (1), .bool true, .int .i64 (1), .int .i64 (-1), .int .i64 (63)] 66 (0, 0))
 h4 : w.heap[B + 4]? = some (.cells #[.int .i64 (-1)] 68 (0, 0))
 h5 : w.heap[B + 5]? = some (.cells #[.int .u64 4096, .int .u64 4096, .int .u8 255, .string ⟨#[102, 105, 114, 115, 116]⟩] 70 (0, 0))
 h6 : w.heap[B + 6]? = some (.cells #[.int .i64 (0), .int .i64 (-1), .int .i64 (4), .int .i64 (7), .bool false] 72 (0, 0))
 h7 : w.heap[B + 7]? = some (.cells #[.int .i64 (0), .int .i64 (0), .int .i64 (1), .int .i64 (9), .bool m] 72 (0, 0))
 h8 : w.heap[B + 8]? = some (.cells #[.int .i64 (0), .int .i64 (99), .int .i64 (-1), .int .i64 (1)] 74 (0, 0))
 h9 : w.heap[B + 9]? = some (.cells #[.slice (some ⟨B + 8, 0, none⟩) 2 2, .slice none 0 0] 75 (0, 0))
 h10 : w.heap[B + 10]? = some (.cells #[.int .i64 (100), .slice (some ⟨B + 9, 0, none⟩) 2 2] 78 (0, 0))
 h11 : w.heap[B + 11]? = some (.cells tAB 80 (0, 0))
theorem row1 {α : Type} {k : Nat} {enc : α → List Value} {w : World} {g : Nat} {x : α} {ty : TypeId} (h : w.heap[g]? = some (.cells (enc x).toArray ty (0, 0))) : RowG k enc w (.slice (some ⟨g, 0, none⟩) 1 1) [x] :=
 ⟨_, _, rfl, Nat.le_refl _, by decide, fun i hi => ⟨g, 0, rfl, (Array.getElem?_eq_some_iff.1 h).1, fun j hj => by
  have h0 : i = 0 := by simp at hi; exact hi
  subst h0;rw [cell_of_row _ _ _ _ _ _ h];simp⟩⟩
theorem tAB_get {i p : Nat} (hi : i < 2) (hp : p < 512) : tAB[0 + i * 512 + p]? = some (.int .u64 (([tA, tB][i] p : Nat) : Int)) := by
 unfold tAB;rw [List.getElem?_toArray];have s1 : (tabV tA).toList.length = 512 := by rw [Array.length_toList, tabV_size]
 match i, hi with
 | 0, _ =>
  rw [List.getElem?_append_left (by rw [s1]; omega), Array.getElem?_toList, show 0 + 0 * 512 + p = p by omega, tabV_get _ hp]
  rfl
 | 1, _ =>
  rw [List.getElem?_append_right (by rw [s1]; omega), Array.getElem?_toList, s1, show 0 + 1 * 512 + p - 512 = p by omega, tabV_get _ hp]
  rfl
theorem SmA.im {w : World} {B : Nat} {m : Bool} (h : SmA w B m) : ImA w (smIm B) (smallI m) where
 base := ⟨rfl, by show (8192 : Nat) ≤ _; decide⟩
 rams := ⟨_, rfl, row1 h.h1, by simp [smallI, rgOk]⟩
 devs := ⟨_, rfl, row1 h.h2, by simp [smallI, rgOk]⟩
 subs := ⟨_, rfl, row1 h.h3, by simp [smallI, tnOk, I64R]⟩
 ports := ⟨_, rfl, row1 h.h4, by simp [smallI, I64R]⟩
 regs := ⟨_, rfl, row1 h.h5, fun x hx => by rw [List.mem_singleton.1 hx]; exact ⟨by decide, by decide, by decide, by decide⟩⟩
 chs := ⟨_, rfl, row1 h.h6, by simp [smallI, lkOk, I64R]⟩
 irqs := ⟨_, rfl, row1 h.h7, by simp [smallI, lkOk, I64R]⟩
 plans := by
  refine ⟨_, rfl, ⟨_, _, rfl, Nat.le_refl _, by decide, fun i hi => ?_⟩, by simp [smallI, scOk, lnOk, stOk, I64R]; omega⟩;have h0 : i = 0 := by simp [smallI] at hi; exact hi
  subst h0;refine ⟨B + 10, 0, .slice (some ⟨B + 9, 0, none⟩) 2 2, rfl, ?_, ?_, ?_⟩
  ·rw [cell_of_row _ _ _ _ _ _ h.h10]; rfl
  ·rw [cell_of_row _ _ _ _ _ _ h.h10]; rfl
  ·refine ⟨_, _, rfl, Nat.le_refl _, by decide, fun j hj => ?_⟩;have hj2 : j < 2 := hj
   match j, hj2 with
   | 0, _ =>
    refine ⟨B + 9, 0, .slice (some ⟨B + 8, 0, none⟩) 2 2, rfl, by rw [cell_of_row _ _ _ _ _ _ h.h9]; rfl, ⟨_, _, rfl, Nat.le_refl _, by decide, fun k hk => ?_⟩⟩;have hk2 : k < 2 := hk;refine ⟨B + 8, 0, rfl, (Array.getElem?_eq_some_iff.1 h.h8).1, fun q hq => ?_⟩;rw [cell_of_row _ _ _ _ _ _ h.h8]
    match k, hk2, q, hq with
    | 0, _, 0, _ => rfl
    | 0, _, 1, _ => rfl
    | 1, _, 0, _ => rfl
    | 1, _, 1, _ => rfl
   | 1, _ =>
    exact ⟨B + 9, 0, .slice none 0 0, rfl, by rw [cell_of_row _ _ _ _ _ _ h.h9]; rfl, ⟨none, 0, rfl, Nat.le_refl _, by decide, fun k hk => absurd hk (Nat.not_lt_zero _)⟩⟩
 master := ⟨rfl, by simp [smallI, I64R]⟩
 start := ⟨rfl, by simp [smallI, I64R]⟩
 tabs := by
  refine ⟨_, rfl, ⟨_, _, rfl, Nat.le_refl _, by decide, fun i hi => ⟨B + 11, 0, rfl, fun p hp => ?_⟩⟩, fun f hf => ?_⟩
  ·rw [cell_of_row _ _ _ _ _ _ h.h11];exact tAB_get hi hp
  ·have hf' : f = tA ∨ f = tB := by simpa [smallI] using hf
   rcases hf' with rfl | rfl <;> intro i _
   ·unfold tA; split <;> (try split) <;> (try split) <;> omega
   ·unfold tB; split <;> omega
 len := rfl
 one := by simp [smIm, Value.oneCell']
theorem small_why (m : Bool) : (stN (smallI m) 9).2 = 0 := by cases m <;> decide +kernel
theorem small_sz (m : Bool) : szI (smallI m) ≤ 12000 := by
 have : (⟨#[102, 105, 114, 115, 116]⟩ : ByteArray).size = 5 := rfl;simp [szI, smallI, gsum, psum, lsum, this]
theorem small_size (m : Bool) : (sizeF (smallI m)).2 = 0 := by
 have h1 := stN_le (smallI m) 9;have h2 := small_sz m;rw [sizeF, small_why, if_neg (by simp), if_neg (by omega)]
theorem smallX {w : World} : Calls Tryz.prog 6 #[] w fun e w' => e = .returned (.agg (smIm w.heap.size).toArray) ∧ SmA w' w.heap.size true ∧ Hid (w'.heap.size = w.heap.size + 12) ∧ Below w.heap.size w w' := by
 obtain ⟨B, hB⟩ : ∃ B, w.heap.size = B := ⟨_, rfl⟩
 go_enter Tryz.func6, Tryz.ntmps6
 go_upto_region 1 with fail
 have z0 : (w.alloc (.cells #[.int .u64 0, .slice none 0 0, .slice none 0 0, .slice none 0 0, .slice none 0 0, .slice none 0 0, .slice none 0 0, .slice none 0 0, .slice none 0 0, .int .i64 0, .int .i64 0, .slice none 0 0] 33)).heap.size = B + 1 := by simp [hB]
 have k0 : Hid ((w.alloc (.cells #[.int .u64 0, .slice none 0 0, .slice none 0 0, .slice none 0 0, .slice none 0 0, .slice none 0 0, .slice none 0 0, .slice none 0 0, .slice none 0 0, .int .i64 0, .int .i64 0, .slice none 0 0] 33)).heap[B]? = some (.cells #[.int .u64 0, .slice none 0 0, .slice none 0 0, .slice none 0 0, .slice none 0 0, .slice none 0 0, .slice none 0 0, .slice none 0 0, .slice none 0 0, .int .i64 0, .int .i64 0, .slice none 0 0] 33 (0, 0))) := by
  have := heap_alloc_new w (.cells #[.int .u64 0, .slice none 0 0, .slice none 0 0, .slice none 0 0, .slice none 0 0, .slice none 0 0, .slice none 0 0, .slice none 0 0, .slice none 0 0, .int .i64 0, .int .i64 0, .slice none 0 0] 33);rw [hB] at this;exact this
 have HB : Hid (Below B w (w.alloc (.cells #[.int .u64 0, .slice none 0 0, .slice none 0 0, .slice none 0 0, .slice none 0 0, .slice none 0 0, .slice none 0 0, .slice none 0 0, .slice none 0 0, .int .i64 0, .int .i64 0, .slice none 0 0] 33))) := (Below.refl _ _).alloc (by omega) _;generalize (w.alloc (.cells #[.int .u64 0, .slice none 0 0, .slice none 0 0, .slice none 0 0, .slice none 0 0, .slice none 0 0, .slice none 0 0, .slice none 0 0, .slice none 0 0, .int .i64 0, .int .i64 0, .slice none 0 0] 33)) = W0 at *
 go_wp2_with (first | (refine wpList_bs rfl (t := 23) (len := 1) #[(0, .tmp 1)] rfl #[(0, .agg #[.int .u64 4096, .int .u64 65536])] (by simp [Act.eval, Act.put]) (n := B + 1) z0 (fun W => s1_slice W) ?_; intro W1 z1 k1 f1; replace k0 := Lib.hid ((f1.out.block B (by omega)).trans k0.out); replace HB := Lib.hid (HB.out.trans (f1.out.mono (by omega))); clear f1) | (refine wpList_bs rfl (t := 23) (len := 1) #[(0, .tmp 3)] rfl #[(0, .agg #[.int .u64 1073741824, .int .u64 4096])] (by simp [Act.eval, Act.put]) (n := B + 2) z1 (fun W => s2_slice W) ?_; intro W2 z2 k2 f2; replace k1 := Lib.hid ((f2.out.block (B + 1) (by omega)).trans k1.out); replace k0 := Lib.hid ((f2.out.block B (by omega)).trans k0.out); replace HB := Lib.hid (HB.out.trans (f2.out.mono (by omega))); clear f2) | (refine wpList_bs rfl (t := 26) (len := 1) #[(0, .tmp 6)] rfl #[(0, .agg #[.int .i64 (3), .int .i64 (1), .bool true, .int .i64 (1), .int .i64 (-1), .int .i64 (63)])] (by simp [Act.eval, Act.put]) (n := B + 3) z2 (fun W => s3_slice W) ?_; intro W3 z3 k3 f3; replace k1 := Lib.hid ((f3.out.block (B + 1) (by omega)).trans k1.out); replace k2 := Lib.hid ((f3.out.block (B + 2) (by omega)).trans k2.out); replace k0 := Lib.hid ((f3.out.block B (by omega)).trans k0.out); replace HB := Lib.hid (HB.out.trans (f3.out.mono (by omega))); clear f3) | (refine wpList_bs rfl (t := 27) (len := 1) #[(0, .tmp 8)] rfl #[(0, .agg #[.int .i64 (-1)])] (by simp [Act.eval, Act.put]) (n := B + 4) z3 (fun W => s4_slice W) ?_; intro W4 z4 k4 f4; replace k1 := Lib.hid ((f4.out.block (B + 1) (by omega)).trans k1.out); replace k2 := Lib.hid ((f4.out.block (B + 2) (by omega)).trans k2.out); replace k3 := Lib.hid ((f4.out.block (B + 3) (by omega)).trans k3.out); replace k0 := Lib.hid ((f4.out.block B (by omega)).trans k0.out); replace HB := Lib.hid (HB.out.trans (f4.out.mono (by omega))); clear f4) | (refine wpList_bs rfl (t := 28) (len := 1) #[(0, .tmp 10)] rfl #[(0, .agg #[.int .u64 4096, .int .u64 4096, .int .u8 255, .string ⟨#[102, 105, 114, 115, 116]⟩])] (by simp [Act.eval, Act.put]) (n := B + 5) z4 (fun W => s5_slice W) ?_; intro W5 z5 k5 f5; replace k1 := Lib.hid ((f5.out.block (B + 1) (by omega)).trans k1.out); replace k2 := Lib.hid ((f5.out.block (B + 2) (by omega)).trans k2.out); replace k3 := Lib.hid ((f5.out.block (B + 3) (by omega)).trans k3.out); replace k4 := Lib.hid ((f5.out.block (B + 4) (by omega)).trans k4.out); replace k0 := Lib.hid ((f5.out.block B (by omega)).trans k0.out); replace HB := Lib.hid (HB.out.trans (f5.out.mono (by omega))); clear f5) | (refine wpList_bs rfl (t := 29) (len := 1) #[(0, .tmp 12)] rfl #[(0, .agg #[.int .i64 (0), .int .i64 (-1), .int .i64 (4), .int .i64 (7), .bool false])] (by simp [Act.eval, Act.put]) (n := B + 6) z5 (fun W => s6_slice W) ?_; intro W6 z6 k6 f6; replace k1 := Lib.hid ((f6.out.block (B + 1) (by omega)).trans k1.out); replace k2 := Lib.hid ((f6.out.block (B + 2) (by omega)).trans k2.out); replace k3 := Lib.hid ((f6.out.block (B + 3) (by omega)).trans k3.out); replace k4 := Lib.hid ((f6.out.block (B + 4) (by omega)).trans k4.out); replace k5 := Lib.hid ((f6.out.block (B + 5) (by omega)).trans k5.out); replace k0 := Lib.hid ((f6.out.block B (by omega)).trans k0.out); replace HB := Lib.hid (HB.out.trans (f6.out.mono (by omega))); clear f6) | (refine wpList_bs rfl (t := 29) (len := 1) #[(0, .tmp 14)] rfl #[(0, .agg #[.int .i64 (0), .int .i64 (0), .int .i64 (1), .int .i64 (9), .bool true])] (by simp [Act.eval, Act.put]) (n := B + 7) z6 (fun W => s7_slice W) ?_; intro W7 z7 k7 f7; replace k1 := Lib.hid ((f7.out.block (B + 1) (by omega)).trans k1.out); replace k2 := Lib.hid ((f7.out.block (B + 2) (by omega)).trans k2.out); replace k3 := Lib.hid ((f7.out.block (B + 3) (by omega)).trans k3.out); replace k4 := Lib.hid ((f7.out.block (B + 4) (by omega)).trans k4.out); replace k5 := Lib.hid ((f7.out.block (B + 5) (by omega)).trans k5.out); replace k6 := Lib.hid ((f7.out.block (B + 6) (by omega)).trans k6.out); replace k0 := Lib.hid ((f7.out.block B (by omega)).trans k0.out); replace HB := Lib.hid (HB.out.trans (f7.out.mono (by omega))); clear f7) | (refine wpList_bs rfl (t := 75) (len := 2) #[(0, .tmp 16), (1, .tmp 17)] rfl #[(0, .agg #[.int .i64 (0), .int .i64 (99)]), (1, .agg #[.int .i64 (-1), .int .i64 (1)])] (by simp [Act.eval, Act.put]) (n := B + 8) z7 (fun W => s8_slice W) ?_; intro W8 z8 k8 f8; replace k1 := Lib.hid ((f8.out.block (B + 1) (by omega)).trans k1.out); replace k2 := Lib.hid ((f8.out.block (B + 2) (by omega)).trans k2.out); replace k3 := Lib.hid ((f8.out.block (B + 3) (by omega)).trans k3.out); replace k4 := Lib.hid ((f8.out.block (B + 4) (by omega)).trans k4.out); replace k5 := Lib.hid ((f8.out.block (B + 5) (by omega)).trans k5.out); replace k6 := Lib.hid ((f8.out.block (B + 6) (by omega)).trans k6.out); replace k7 := Lib.hid ((f8.out.block (B + 7) (by omega)).trans k7.out); replace k0 := Lib.hid ((f8.out.block B (by omega)).trans k0.out); replace HB := Lib.hid (HB.out.trans (f8.out.mono (by omega))); clear f8) | (refine wpList_bs rfl (t := 76) (len := 2) #[(0, .tmp 18), (1, .const (.slice none 0 0))] rfl #[(0, .slice (some ⟨B + 8, 0, none⟩) 2 2), (1, .slice none 0 0)] (by simp [Act.eval, Act.put]) (n := B + 9) z8 (fun W => s9_slice B W) ?_; intro W9 z9 k9 f9; replace k1 := Lib.hid ((f9.out.block (B + 1) (by omega)).trans k1.out); replace k2 := Lib.hid ((f9.out.block (B + 2) (by omega)).trans k2.out); replace k3 := Lib.hid ((f9.out.block (B + 3) (by omega)).trans k3.out); replace k4 := Lib.hid ((f9.out.block (B + 4) (by omega)).trans k4.out); replace k5 := Lib.hid ((f9.out.block (B + 5) (by omega)).trans k5.out); replace k6 := Lib.hid ((f9.out.block (B + 6) (by omega)).trans k6.out); replace k7 := Lib.hid ((f9.out.block (B + 7) (by omega)).trans k7.out); replace k8 := Lib.hid ((f9.out.block (B + 8) (by omega)).trans k8.out); replace k0 := Lib.hid ((f9.out.block B (by omega)).trans k0.out); replace HB := Lib.hid (HB.out.trans (f9.out.mono (by omega))); clear f9) | (refine wpList_bs rfl (t := 30) (len := 1) #[(0, .tmp 20)] rfl #[(0, .agg #[.int .i64 (100), .slice (some ⟨B + 9, 0, none⟩) 2 2])] (by simp [Act.eval, Act.put]) (n := B + 10) z9 (fun W => s10_slice B W) ?_; intro W10 z10 k10 f10; replace k1 := Lib.hid ((f10.out.block (B + 1) (by omega)).trans k1.out); replace k2 := Lib.hid ((f10.out.block (B + 2) (by omega)).trans k2.out); replace k3 := Lib.hid ((f10.out.block (B + 3) (by omega)).trans k3.out); replace k4 := Lib.hid ((f10.out.block (B + 4) (by omega)).trans k4.out); replace k5 := Lib.hid ((f10.out.block (B + 5) (by omega)).trans k5.out); replace k6 := Lib.hid ((f10.out.block (B + 6) (by omega)).trans k6.out); replace k7 := Lib.hid ((f10.out.block (B + 7) (by omega)).trans k7.out); replace k8 := Lib.hid ((f10.out.block (B + 8) (by omega)).trans k8.out); replace k9 := Lib.hid ((f10.out.block (B + 9) (by omega)).trans k9.out); replace k0 := Lib.hid ((f10.out.block B (by omega)).trans k0.out); replace HB := Lib.hid (HB.out.trans (f10.out.mono (by omega))); clear f10) | (refine wpList_lbuild rfl 80 #[(0, .const (.int .u64 1)), (1, .const (.int .u64 2)), (2, .const (.int .u64 3))] rfl #[(0, .int .u64 1), (1, .int .u64 2), (2, .int .u64 3)] (by simp [Act.eval, Act.put]) (fun W => tA_build W) ?_) | (refine wpList_lbuild rfl 80 #[(511, .const (.int .u64 7))] rfl #[(511, .int .u64 7)] (by simp [Act.eval, Act.put]) (fun W => tB_build W) ?_) | (refine wpList_bs rfl (t := 31) (len := 2) #[(0, .tmp 22), (1, .tmp 23)] rfl #[(0, .agg (tabV tA)), (1, .agg (tabV tB))] (by simp [Act.eval, Act.put]) (n := B + 11) z10 (fun W => tAB_slice W) ?_; intro W11 z11 k11 f11; replace k1 := Lib.hid ((f11.out.block (B + 1) (by omega)).trans k1.out); replace k2 := Lib.hid ((f11.out.block (B + 2) (by omega)).trans k2.out); replace k3 := Lib.hid ((f11.out.block (B + 3) (by omega)).trans k3.out); replace k4 := Lib.hid ((f11.out.block (B + 4) (by omega)).trans k4.out); replace k5 := Lib.hid ((f11.out.block (B + 5) (by omega)).trans k5.out); replace k6 := Lib.hid ((f11.out.block (B + 6) (by omega)).trans k6.out); replace k7 := Lib.hid ((f11.out.block (B + 7) (by omega)).trans k7.out); replace k8 := Lib.hid ((f11.out.block (B + 8) (by omega)).trans k8.out); replace k9 := Lib.hid ((f11.out.block (B + 9) (by omega)).trans k9.out); replace k10 := Lib.hid ((f11.out.block (B + 10) (by omega)).trans k10.out); replace k0 := Lib.hid ((f11.out.block B (by omega)).trans k0.out); replace HB := Lib.hid (HB.out.trans (f11.out.mono (by omega))); clear f11) | (refine wpList_lbuild rfl 33 #[(0, .const (.int .u64 8192)), (1, .tmp 5), (2, .tmp 7), (3, .tmp 9), (4, .tmp 11), (5, .tmp 13), (6, .tmp 15), (7, .tmp 21), (8, .const (.int .i64 (-1))), (9, .const (.int .i64 (0))), (10, .tmp 24)] rfl #[(0, .int .u64 8192), (1, .agg #[.slice (some ⟨B + 1, 0, none⟩) 1 1, .slice (some ⟨B + 2, 0, none⟩) 1 1]), (2, .slice (some ⟨B + 3, 0, none⟩) 1 1), (3, .slice (some ⟨B + 4, 0, none⟩) 1 1), (4, .slice (some ⟨B + 5, 0, none⟩) 1 1), (5, .slice (some ⟨B + 6, 0, none⟩) 1 1), (6, .slice (some ⟨B + 7, 0, none⟩) 1 1), (7, .slice (some ⟨B + 10, 0, none⟩) 1 1), (8, .int .i64 (-1)), (9, .int .i64 (0)), (10, .slice (some ⟨B + 11, 0, none⟩) 2 2)] (by simp [Act.eval, Act.put]) (fun W => im_build B W) ?_) | (refine wpList_store_row rfl 33 (.tmp 0) (.tmp 25) rfl B (smIm B).toArray rfl rfl _ _ k0.out (by kernel_rfl) (by rfl) (smIm_one B) ?_))
 have k0' : Hid ((W11.setRow B (smIm B).toArray).heap[B]? = some (.cells (smIm B).toArray 33 (0, 0))) := setRow_heap _ _ _ _ _ _ k0.out
 (try simp only [Exit.inBlock, Exit.then])
 refine bodyPost_ret (results_cell_row rfl _ _ B 33 (smIm B).toArray (0, 0) _ rfl k0'.out Tryz.underlying33 rfl (by kernel_rfl)) rfl ?_;have kk : ∀ k, (W11.setRow B (smIm B).toArray).heap[B + (k + 1)]? = W11.heap[B + (k + 1)]? := fun k => setRow_other _ _ _ _ (by omega);rw [hB];exact ⟨rfl, ⟨(kk 0).trans k1.out, (kk 1).trans k2.out, (kk 2).trans k3.out, (kk 3).trans k4.out, (kk 4).trans k5.out, (kk 5).trans k6.out, (kk 6).trans k7.out, (kk 7).trans k8.out, (kk 8).trans k9.out, (kk 9).trans k10.out, (kk 10).trans k11.out⟩, (size_setRow _ _ _).trans z11, HB.out.trans (below_setRow _ _ _ _ (Nat.le_refl _))⟩
end Go.Proofs.YtmfkggngjeolcaaGreatDoor
namespace Go.Proofs.YtmfkggngjeolcaaGreatDoor
open Go.RowKit Bn
def ubE (z : Nat) : List Value := [.int .u8 (z : Int)]
theorem sameBytesX {w : World} {u v : Value} {xs ys : List Nat} (hu : RowG 1 ubE w u xs) (hv : RowG 1 ubE w v ys) : Calls Tryz.prog 19 #[u, v] w (YN (xs = ys) w) := by
 have HU := Lib.hid hu;have HV := Lib.hid hv;obtain ⟨ao, cap, rfl, h1, h2, _⟩ := hu;obtain ⟨bo, bap, rfl, g1, g2, _⟩ := hv;unfold maxLen at h2 g2;obtain ⟨n, hn⟩ : ∃ n, xs.length = n := ⟨_, rfl⟩
 obtain ⟨m, hm⟩ : ∃ m, ys.length = m := ⟨_, rfl⟩
 have HN := Lib.hid hn;have HM := Lib.hid hm;rw [hn] at h1 HU ⊢;rw [hm] at g1 HV ⊢;clear hn hm;have HB0 : Hid (Below w.heap.size w w) := Below.refl _ _
 by_cases hnm : n = m
 ·subst hnm;go_enter Tryz.func19, Tryz.ntmps19
  go_wp2_with fail
  go_loopw [5] (fun iv wr => ∃ i : Nat, i ≤ n ∧ iv = .int .i64 (i : Int) ∧ Hid (∀ j (h1 : j < xs.length) (h2 : j < ys.length), j < i → xs[j] = ys[j]) ∧ Hid (Below w.heap.size w wr)) (fun iv _ => n - (intOf iv).toNat)
  case atStart => exact ⟨0, by omega, rfl, (fun j _ _ h => absurd h (Nat.not_lt_zero _)), HB0⟩
  clear HB0;obtain ⟨i, hi, rfl, HEq, HB⟩ := hrel
  by_cases hin : i < n
  ·have ji : (i : Int) < (n : Int) := by omega
   have hix : i < xs.length := by rw [HN.out]; exact hin
   have hiy : i < ys.length := by rw [HM.out]; exact hin
   have hw1 : IntKind.i64.wrap ((i : Int) + 1) = ((i + 1 : Nat) : Int) := by rw [IntKind.wrap_i64]; omega
   obtain ⟨_, _, e', _, _, hc⟩ := HU.out.below HB.out;simp only [Value.slice.injEq] at e';obtain ⟨rfl, e9, rfl⟩ := e';clear e9;obtain ⟨b, of, rfl, _, hc⟩ := hc i hix;obtain ⟨_, _, e', _, _, hd⟩ := HV.out.below HB.out;simp only [Value.slice.injEq] at e';obtain ⟨rfl, e9, rfl⟩ := e';clear e9;obtain ⟨b', of', rfl, _, hd⟩ := hd i hiy;have HNx : Hid (xs[i] = ys[i] → ∀ j (h1 : j < xs.length) (h2 : j < ys.length), j < i + 1 → xs[j] = ys[j]) := fun e j h1 h2 h3 => by
    by_cases h : j = i
    ·subst h; exact e
    ·exact HEq.out j h1 h2 (by omega)
   have HNo : Hid (xs[i] ≠ ys[i] → ¬ xs = ys) := fun e h => e (list_at h _ _);generalize xs[i] = x at *;generalize ys[i] = y at *;have c1 : wr.cell? ⟨b, of + i, none⟩ = some (.int .u8 (x : Int)) := by
    have := hc 0 (by decide);rw [Nat.mul_one, Nat.add_zero] at this;exact this
   have c2 : wr.cell? ⟨b', of' + i, none⟩ = some (.int .u8 (y : Int)) := by
    have := hd 0 (by decide);rw [Nat.mul_one, Nat.add_zero] at this;exact this
   clear hc hd
   by_cases hxy : x = y
   ·subst hxy;have HNz := Lib.hid (HNx.out rfl);go_upto_region 6 with fail
    go_quiet (fail)
    have HB1 : Hid (Below w.heap.size w (wr.drewN nq)) := HB.out.trans ⟨rfl, rfl, rfl, Nat.le_refl _, fun _ _ => rfl⟩;clear HB c1 c2;generalize (wr.drewN nq) = W1 at *;go_wp2_with fail
    go_roundw
    case rel => exact ⟨i + 1, by omega, rfl, HNz, HB1⟩
    case measure => simp [intOf]; omega
   ·have HNz := Lib.hid (HNo.out hxy);have jx : ¬ (x : Int) = (y : Int) := by omega
    go_upto_region 6 with fail
    go_quiet (fail)
    have HB1 : Hid (Below w.heap.size w (wr.drewN nq)) := HB.out.trans ⟨rfl, rfl, rfl, Nat.le_refl _, fun _ _ => rfl⟩;clear HB c1 c2;generalize (wr.drewN nq) = W1 at *;go_wp2_with fail
    go_ret
    exact YN.no HNz.out HB1.out
  ·have ji : ¬ (i : Int) < (n : Int) := by omega
   have HFin : Hid (xs = ys) := list_eq_of (by rw [HN.out, HM.out]) (fun j h1 h2 => HEq.out j h1 h2 (by rw [HN.out] at h1; omega));go_wp2_with fail
   go_ret
   exact YN.yes HFin.out HB.out
 ·have jn : ¬ (n : Int) = (m : Int) := by omega
  have HNe : Hid (¬ xs = ys) := fun h => hnm (by rw [← HN.out, ← HM.out, h]);go_enter Tryz.func19, Tryz.ntmps19
  go_wp2_with fail
  go_ret
  exact YN.no HNe.out HB0.out
end Go.Proofs.YtmfkggngjeolcaaGreatDoor
