import Derived.Test.YtmfkggngjeolcaaGreatDoorPk25
import Derived.Test.YtmfkggngjeolcaaGreatDoorPk18
import Derived.Test.YtmfkggngjeolcaaGreatDoorPk24
/- Bundle: the document's Same of two images, exactly (written by parts/gen_bnsim.py). Own work. -/
namespace Go.Proofs.YtmfkggngjeolcaaGreatDoor
open Go.RowKit Bn
set_option linter.unusedVariables false
set_option linter.unusedSimpArgs false
/-- a table, by what it holds below 512 -/
def tf (f : Nat → Nat) : Fin 512 → Nat := fun j => f j.1
def tfX (x : Fin 512 → Nat) : Nat → Nat := fun p => if h : p < 512 then x ⟨p, h⟩ else 0
def txE (x : Fin 512 → Nat) : List Value := (tabV (tfX x)).toList
theorem txE_get (x : Fin 512 → Nat) {j : Nat} (hj : j < 512) : (txE x)[j]? = some (.int .u64 (tfX x j : Int)) := by
  have := tabV_get (tfX x) hj
  rw [txE, Array.getElem?_toList]
  exact this
theorem tfX_tf (f : Nat → Nat) {p : Nat} (hp : p < 512) : tfX (tf f) p = f p := by rw [tfX, dif_pos hp, tf]
theorem TbG.row {w : World} {v : Value} {fs : List (Nat → Nat)} (h : TbG w v fs) : RowG 512 txE w v (fs.map tf) := by
  obtain ⟨ao, cap, rfl, h1, h2, h3⟩ := h
  refine ⟨ao, cap, by rw [List.length_map], by rw [List.length_map]; exact h1, h2, fun i hi => ?_⟩
  have hi' : i < fs.length := by rw [List.length_map] at hi; exact hi
  obtain ⟨b, o, rfl, hc⟩ := h3 i hi'
  refine ⟨b, o, rfl, World.block_lt_of_cell? w _ (hc 0 (by decide)), fun j hj => ?_⟩
  rw [hc j hj, txE_get _ hj, List.getElem_map, tfX_tf _ hj]
theorem tx_load {w : World} {b o : Nat} {x : Fin 512 → Nat} (h : ∀ j, j < 512 → w.cell? ⟨b, o + j, none⟩ = (txE x)[j]?) : (Instr.loadAt 80 (.pointer (some ⟨b, o, none⟩))).run Tryz.prog w = .ok (.agg (txE x).toArray) w := by
  have := cells_tab (w := w) (b := b) (o := o) (f := tfX x) (fun p hp => by rw [h p hp, txE_get _ hp])
  rw [this, txE, Array.toArray_toList]
theorem tx_neq (x y : Fin 512 → Nat) (w : World) : (binOp .neq 80 (.agg (txE x).toArray) (.agg (txE y).toArray)).run Tryz.prog w = .ok (.bool (!decide (∀ j ∈ List.range 512, tfX x j = tfX y j))) w := by
  rw [txE, txE, Array.toArray_toList, Array.toArray_toList, tab_neq2]
theorem tx_iff (x y : Fin 512 → Nat) : (∀ j ∈ List.range 512, tfX x j = tfX y j) ↔ x = y := by
  constructor
  · intro h
    funext j
    have := h j.1 (List.mem_range.2 j.2)
    rw [tfX, tfX, dif_pos j.2, dif_pos j.2] at this
    exact this
  · intro h j _
    rw [h]
theorem tx_guard : Tryz.prog.eqGuardType Tryz.prog.depth 80 = false := by kernel_rfl
/-- alike in every field -/
def alike (I J : Im) : Prop := I.base = J.base ∧ I.master = J.master ∧ I.start = J.start ∧ (I.rams = J.rams ∧ I.devs = J.devs) ∧ I.chs = J.chs ∧ I.irqs = J.irqs ∧ I.plans = J.plans ∧ I.subs = J.subs ∧ I.ports = J.ports ∧ I.regs = J.regs ∧ I.tabs.map tf = J.tabs.map tf
theorem wpList_load_tyG {ops : Array Oper} {rest : List Oper} {o : Oper} {a : Act} {w : World} {Q : Exit → Act → World → Prop} (hw : Region.wanted o (yielded ops a.tmps) = true) (ty : TypeId) (x : Operand) (ho : o.op = .load ty x) {p V : Value} (hx : a.eval x = p) (hl : (Instr.loadAt ty p).run Tryz.prog w = .ok V w) (hk : wpList Tryz.prog ops Q rest (a.put o.dst V) w) : wpList Tryz.prog ops Q (o :: rest) a w :=
  wpList_wanted hw (by
    unfold Oper.wp execOp
    simp only [ho, hx, Sem.run_bind, Sem.run_pure, Result.andThen_ok, hl]
    exact hk)
theorem bus_load {w : World} {b o : Nat} {u v : Value} (h1 : w.cell? ⟨b, o, none⟩ = some u) (h2 : w.cell? ⟨b, o + 1, none⟩ = some v) : (Instr.loadAt 25 (.pointer (some ⟨b, o, none⟩))).run Tryz.prog w = .ok (.agg #[u, v]) w := by
  have hS : Tryz.prog.underlying 25 = some (.struct (Tryz.prog.fieldsOf 25)) := by kernel_rfl
  have hz : (Tryz.prog.info? 25).map (·.size) = some 2 := by kernel_rfl
  have := run_loadAt_mid (P := Tryz.prog) w b o 25 [u, v] _ (fun j x hx => by
    match j, hx with
    | 0, hx => simp at hx; subst hx; exact h1
    | 1, hx => simp at hx; subst hx; exact h2
    | j + 2, hx => simp at hx) hS rfl hz
  simpa using this
set_option maxRecDepth 100000 in
set_option maxHeartbeats 16000000 in
theorem sameX {w : World} {ui vi : List Value} {I J : Im} (hI : ImA w ui I) (hJ : ImA w vi J) : Calls Tryz.prog 20 #[.agg ui.toArray, .agg vi.toArray] w (YN (alike I J) w) := by
  obtain ⟨uz0, uz1, uz2, uz3, uz4, uz5, uz6, uz7, uz8, uz9, uz10, uz11, rfl⟩ := list12 hI.len
  have ue0 := hI.base.1
  simp at ue0
  subst ue0
  have ue9 := hI.master.1
  simp at ue9
  subst ue9
  have ue10 := hI.start.1
  simp at ue10
  subst ue10
  obtain ⟨uv1, ue1, uR1, _⟩ := hI.rams
  simp at ue1
  subst ue1
  have uH1 := Lib.hid uR1
  obtain ⟨uv2, ue2, uR2, _⟩ := hI.devs
  simp at ue2
  subst ue2
  have uH2 := Lib.hid uR2
  obtain ⟨uv3, ue3, uR3, _⟩ := hI.subs
  simp at ue3
  subst ue3
  have uH3 := Lib.hid uR3
  obtain ⟨uv4, ue4, uR4, _⟩ := hI.ports
  simp at ue4
  subst ue4
  have uH4 := Lib.hid uR4
  obtain ⟨uv5, ue5, uR5, _⟩ := hI.regs
  simp at ue5
  subst ue5
  have uH5 := Lib.hid uR5
  obtain ⟨uv6, ue6, uR6, _⟩ := hI.chs
  simp at ue6
  subst ue6
  have uH6 := Lib.hid uR6
  obtain ⟨uv7, ue7, uR7, _⟩ := hI.irqs
  simp at ue7
  subst ue7
  have uH7 := Lib.hid uR7
  obtain ⟨uv8, ue8, uR8, _⟩ := hI.plans
  simp at ue8
  subst ue8
  have uH8 := Lib.hid uR8
  obtain ⟨uv11, ue11, uR11, _⟩ := hI.tabs
  simp at ue11
  subst ue11
  replace uR11 := uR11.row
  have uH11 := Lib.hid uR11
  clear hI
  obtain ⟨ua3, uc3, rfl, ul3, um3, _⟩ := uR3
  unfold maxLen at um3
  obtain ⟨un3, uq3⟩ : ∃ n, I.subs.length = n := ⟨_, rfl⟩
  have uN3 := Lib.hid uq3
  rw [uq3] at ul3 uH3 ⊢
  clear uq3
  obtain ⟨ua4, uc4, rfl, ul4, um4, _⟩ := uR4
  unfold maxLen at um4
  obtain ⟨un4, uq4⟩ : ∃ n, I.ports.length = n := ⟨_, rfl⟩
  have uN4 := Lib.hid uq4
  rw [uq4] at ul4 uH4 ⊢
  clear uq4
  obtain ⟨ua5, uc5, rfl, ul5, um5, _⟩ := uR5
  unfold maxLen at um5
  obtain ⟨un5, uq5⟩ : ∃ n, I.regs.length = n := ⟨_, rfl⟩
  have uN5 := Lib.hid uq5
  rw [uq5] at ul5 uH5 ⊢
  clear uq5
  obtain ⟨uts, uhts⟩ : ∃ t, I.tabs.map tf = t := ⟨_, rfl⟩
  have uHTs := Lib.hid uhts
  rw [uhts] at uR11 uH11
  clear uhts
  obtain ⟨ua11, uc11, rfl, ul11, um11, _⟩ := uR11
  unfold maxLen at um11
  obtain ⟨un11, uq11⟩ : ∃ n, uts.length = n := ⟨_, rfl⟩
  have uN11 := Lib.hid uq11
  rw [uq11] at ul11 uH11 ⊢
  clear uq11
  clear uR1
  clear uR2
  clear uR6
  clear uR7
  clear uR8
  have uHb : Hid (I.base = I.base) := show _ = _ from rfl
  obtain ⟨ib, hib⟩ : ∃ n, I.base = n := ⟨_, rfl⟩
  have HVib := Lib.hid hib
  rw [hib]
  clear hib
  obtain ⟨im, him⟩ : ∃ n, I.master = n := ⟨_, rfl⟩
  have HVim := Lib.hid him
  rw [him]
  clear him
  obtain ⟨is, his⟩ : ∃ n, I.start = n := ⟨_, rfl⟩
  have HVis := Lib.hid his
  rw [his]
  clear his
  clear uHb
  obtain ⟨vz0, vz1, vz2, vz3, vz4, vz5, vz6, vz7, vz8, vz9, vz10, vz11, rfl⟩ := list12 hJ.len
  have ve0 := hJ.base.1
  simp at ve0
  subst ve0
  have ve9 := hJ.master.1
  simp at ve9
  subst ve9
  have ve10 := hJ.start.1
  simp at ve10
  subst ve10
  obtain ⟨vv1, ve1, vR1, _⟩ := hJ.rams
  simp at ve1
  subst ve1
  have vH1 := Lib.hid vR1
  obtain ⟨vv2, ve2, vR2, _⟩ := hJ.devs
  simp at ve2
  subst ve2
  have vH2 := Lib.hid vR2
  obtain ⟨vv3, ve3, vR3, _⟩ := hJ.subs
  simp at ve3
  subst ve3
  have vH3 := Lib.hid vR3
  obtain ⟨vv4, ve4, vR4, _⟩ := hJ.ports
  simp at ve4
  subst ve4
  have vH4 := Lib.hid vR4
  obtain ⟨vv5, ve5, vR5, _⟩ := hJ.regs
  simp at ve5
  subst ve5
  have vH5 := Lib.hid vR5
  obtain ⟨vv6, ve6, vR6, _⟩ := hJ.chs
  simp at ve6
  subst ve6
  have vH6 := Lib.hid vR6
  obtain ⟨vv7, ve7, vR7, _⟩ := hJ.irqs
  simp at ve7
  subst ve7
  have vH7 := Lib.hid vR7
  obtain ⟨vv8, ve8, vR8, _⟩ := hJ.plans
  simp at ve8
  subst ve8
  have vH8 := Lib.hid vR8
  obtain ⟨vv11, ve11, vR11, _⟩ := hJ.tabs
  simp at ve11
  subst ve11
  replace vR11 := vR11.row
  have vH11 := Lib.hid vR11
  clear hJ
  obtain ⟨va3, vc3, rfl, vl3, vm3, _⟩ := vR3
  unfold maxLen at vm3
  obtain ⟨vn3, vq3⟩ : ∃ n, J.subs.length = n := ⟨_, rfl⟩
  have vN3 := Lib.hid vq3
  rw [vq3] at vl3 vH3 ⊢
  clear vq3
  obtain ⟨va4, vc4, rfl, vl4, vm4, _⟩ := vR4
  unfold maxLen at vm4
  obtain ⟨vn4, vq4⟩ : ∃ n, J.ports.length = n := ⟨_, rfl⟩
  have vN4 := Lib.hid vq4
  rw [vq4] at vl4 vH4 ⊢
  clear vq4
  obtain ⟨va5, vc5, rfl, vl5, vm5, _⟩ := vR5
  unfold maxLen at vm5
  obtain ⟨vn5, vq5⟩ : ∃ n, J.regs.length = n := ⟨_, rfl⟩
  have vN5 := Lib.hid vq5
  rw [vq5] at vl5 vH5 ⊢
  clear vq5
  obtain ⟨vts, vhts⟩ : ∃ t, J.tabs.map tf = t := ⟨_, rfl⟩
  have vHTs := Lib.hid vhts
  rw [vhts] at vR11 vH11
  clear vhts
  obtain ⟨va11, vc11, rfl, vl11, vm11, _⟩ := vR11
  unfold maxLen at vm11
  obtain ⟨vn11, vq11⟩ : ∃ n, vts.length = n := ⟨_, rfl⟩
  have vN11 := Lib.hid vq11
  rw [vq11] at vl11 vH11 ⊢
  clear vq11
  clear vR1
  clear vR2
  clear vR6
  clear vR7
  clear vR8
  have vHb : Hid (J.base = J.base) := show _ = _ from rfl
  obtain ⟨jb, hjb⟩ : ∃ n, J.base = n := ⟨_, rfl⟩
  have HVjb := Lib.hid hjb
  rw [hjb]
  clear hjb
  obtain ⟨jm, hjm⟩ : ∃ n, J.master = n := ⟨_, rfl⟩
  have HVjm := Lib.hid hjm
  rw [hjm]
  clear hjm
  obtain ⟨js, hjs⟩ : ∃ n, J.start = n := ⟨_, rfl⟩
  have HVjs := Lib.hid hjs
  rw [hjs]
  clear hjs
  clear vHb
  have s1 : (w.alloc (.cells #[.int .u64 (ib : Int), uz1, uz2, .slice ua3 un3 uc3, .slice ua4 un4 uc4, .slice ua5 un5 uc5, uz6, uz7, uz8, .int .i64 im, .int .i64 is, .slice ua11 un11 uc11] 33)).heap.size = w.heap.size + 1 := by simp
  have HB9 : Hid (Below w.heap.size w ((w.alloc (.cells #[.int .u64 (ib : Int), uz1, uz2, .slice ua3 un3 uc3, .slice ua4 un4 uc4, .slice ua5 un5 uc5, uz6, uz7, uz8, .int .i64 im, .int .i64 is, .slice ua11 un11 uc11] 33)).alloc (.cells #[.int .u64 (jb : Int), vz1, vz2, .slice va3 vn3 vc3, .slice va4 vn4 vc4, .slice va5 vn5 vc5, vz6, vz7, vz8, .int .i64 jm, .int .i64 js, .slice va11 vn11 vc11] 33))) := ((Below.refl _ _).alloc (Nat.le_refl _) _).alloc (by rw [s1]; omega) _
  clear s1
  have c0 : ((w.alloc (.cells #[.int .u64 (ib : Int), uz1, uz2, .slice ua3 un3 uc3, .slice ua4 un4 uc4, .slice ua5 un5 uc5, uz6, uz7, uz8, .int .i64 im, .int .i64 is, .slice ua11 un11 uc11] 33)).alloc (.cells #[.int .u64 (jb : Int), vz1, vz2, .slice va3 vn3 vc3, .slice va4 vn4 vc4, .slice va5 vn5 vc5, vz6, vz7, vz8, .int .i64 jm, .int .i64 js, .slice va11 vn11 vc11] 33)).cell? ⟨w.heap.size, 0, none⟩ = some (.int .u64 (ib : Int)) := by simp [go_sem]
  have c1 : ((w.alloc (.cells #[.int .u64 (ib : Int), uz1, uz2, .slice ua3 un3 uc3, .slice ua4 un4 uc4, .slice ua5 un5 uc5, uz6, uz7, uz8, .int .i64 im, .int .i64 is, .slice ua11 un11 uc11] 33)).alloc (.cells #[.int .u64 (jb : Int), vz1, vz2, .slice va3 vn3 vc3, .slice va4 vn4 vc4, .slice va5 vn5 vc5, vz6, vz7, vz8, .int .i64 jm, .int .i64 js, .slice va11 vn11 vc11] 33)).cell? ⟨w.heap.size, 1, none⟩ = some (uz1) := by simp [go_sem]
  have c2 : ((w.alloc (.cells #[.int .u64 (ib : Int), uz1, uz2, .slice ua3 un3 uc3, .slice ua4 un4 uc4, .slice ua5 un5 uc5, uz6, uz7, uz8, .int .i64 im, .int .i64 is, .slice ua11 un11 uc11] 33)).alloc (.cells #[.int .u64 (jb : Int), vz1, vz2, .slice va3 vn3 vc3, .slice va4 vn4 vc4, .slice va5 vn5 vc5, vz6, vz7, vz8, .int .i64 jm, .int .i64 js, .slice va11 vn11 vc11] 33)).cell? ⟨w.heap.size, 2, none⟩ = some (uz2) := by simp [go_sem]
  have c3 : ((w.alloc (.cells #[.int .u64 (ib : Int), uz1, uz2, .slice ua3 un3 uc3, .slice ua4 un4 uc4, .slice ua5 un5 uc5, uz6, uz7, uz8, .int .i64 im, .int .i64 is, .slice ua11 un11 uc11] 33)).alloc (.cells #[.int .u64 (jb : Int), vz1, vz2, .slice va3 vn3 vc3, .slice va4 vn4 vc4, .slice va5 vn5 vc5, vz6, vz7, vz8, .int .i64 jm, .int .i64 js, .slice va11 vn11 vc11] 33)).cell? ⟨w.heap.size, 3, none⟩ = some (.slice ua3 un3 uc3) := by simp [go_sem]
  have c4 : ((w.alloc (.cells #[.int .u64 (ib : Int), uz1, uz2, .slice ua3 un3 uc3, .slice ua4 un4 uc4, .slice ua5 un5 uc5, uz6, uz7, uz8, .int .i64 im, .int .i64 is, .slice ua11 un11 uc11] 33)).alloc (.cells #[.int .u64 (jb : Int), vz1, vz2, .slice va3 vn3 vc3, .slice va4 vn4 vc4, .slice va5 vn5 vc5, vz6, vz7, vz8, .int .i64 jm, .int .i64 js, .slice va11 vn11 vc11] 33)).cell? ⟨w.heap.size, 4, none⟩ = some (.slice ua4 un4 uc4) := by simp [go_sem]
  have c5 : ((w.alloc (.cells #[.int .u64 (ib : Int), uz1, uz2, .slice ua3 un3 uc3, .slice ua4 un4 uc4, .slice ua5 un5 uc5, uz6, uz7, uz8, .int .i64 im, .int .i64 is, .slice ua11 un11 uc11] 33)).alloc (.cells #[.int .u64 (jb : Int), vz1, vz2, .slice va3 vn3 vc3, .slice va4 vn4 vc4, .slice va5 vn5 vc5, vz6, vz7, vz8, .int .i64 jm, .int .i64 js, .slice va11 vn11 vc11] 33)).cell? ⟨w.heap.size, 5, none⟩ = some (.slice ua5 un5 uc5) := by simp [go_sem]
  have c6 : ((w.alloc (.cells #[.int .u64 (ib : Int), uz1, uz2, .slice ua3 un3 uc3, .slice ua4 un4 uc4, .slice ua5 un5 uc5, uz6, uz7, uz8, .int .i64 im, .int .i64 is, .slice ua11 un11 uc11] 33)).alloc (.cells #[.int .u64 (jb : Int), vz1, vz2, .slice va3 vn3 vc3, .slice va4 vn4 vc4, .slice va5 vn5 vc5, vz6, vz7, vz8, .int .i64 jm, .int .i64 js, .slice va11 vn11 vc11] 33)).cell? ⟨w.heap.size, 6, none⟩ = some (uz6) := by simp [go_sem]
  have c7 : ((w.alloc (.cells #[.int .u64 (ib : Int), uz1, uz2, .slice ua3 un3 uc3, .slice ua4 un4 uc4, .slice ua5 un5 uc5, uz6, uz7, uz8, .int .i64 im, .int .i64 is, .slice ua11 un11 uc11] 33)).alloc (.cells #[.int .u64 (jb : Int), vz1, vz2, .slice va3 vn3 vc3, .slice va4 vn4 vc4, .slice va5 vn5 vc5, vz6, vz7, vz8, .int .i64 jm, .int .i64 js, .slice va11 vn11 vc11] 33)).cell? ⟨w.heap.size, 7, none⟩ = some (uz7) := by simp [go_sem]
  have c8 : ((w.alloc (.cells #[.int .u64 (ib : Int), uz1, uz2, .slice ua3 un3 uc3, .slice ua4 un4 uc4, .slice ua5 un5 uc5, uz6, uz7, uz8, .int .i64 im, .int .i64 is, .slice ua11 un11 uc11] 33)).alloc (.cells #[.int .u64 (jb : Int), vz1, vz2, .slice va3 vn3 vc3, .slice va4 vn4 vc4, .slice va5 vn5 vc5, vz6, vz7, vz8, .int .i64 jm, .int .i64 js, .slice va11 vn11 vc11] 33)).cell? ⟨w.heap.size, 8, none⟩ = some (uz8) := by simp [go_sem]
  have c9 : ((w.alloc (.cells #[.int .u64 (ib : Int), uz1, uz2, .slice ua3 un3 uc3, .slice ua4 un4 uc4, .slice ua5 un5 uc5, uz6, uz7, uz8, .int .i64 im, .int .i64 is, .slice ua11 un11 uc11] 33)).alloc (.cells #[.int .u64 (jb : Int), vz1, vz2, .slice va3 vn3 vc3, .slice va4 vn4 vc4, .slice va5 vn5 vc5, vz6, vz7, vz8, .int .i64 jm, .int .i64 js, .slice va11 vn11 vc11] 33)).cell? ⟨w.heap.size, 9, none⟩ = some (.int .i64 im) := by simp [go_sem]
  have c10 : ((w.alloc (.cells #[.int .u64 (ib : Int), uz1, uz2, .slice ua3 un3 uc3, .slice ua4 un4 uc4, .slice ua5 un5 uc5, uz6, uz7, uz8, .int .i64 im, .int .i64 is, .slice ua11 un11 uc11] 33)).alloc (.cells #[.int .u64 (jb : Int), vz1, vz2, .slice va3 vn3 vc3, .slice va4 vn4 vc4, .slice va5 vn5 vc5, vz6, vz7, vz8, .int .i64 jm, .int .i64 js, .slice va11 vn11 vc11] 33)).cell? ⟨w.heap.size, 10, none⟩ = some (.int .i64 is) := by simp [go_sem]
  have c11 : ((w.alloc (.cells #[.int .u64 (ib : Int), uz1, uz2, .slice ua3 un3 uc3, .slice ua4 un4 uc4, .slice ua5 un5 uc5, uz6, uz7, uz8, .int .i64 im, .int .i64 is, .slice ua11 un11 uc11] 33)).alloc (.cells #[.int .u64 (jb : Int), vz1, vz2, .slice va3 vn3 vc3, .slice va4 vn4 vc4, .slice va5 vn5 vc5, vz6, vz7, vz8, .int .i64 jm, .int .i64 js, .slice va11 vn11 vc11] 33)).cell? ⟨w.heap.size, 11, none⟩ = some (.slice ua11 un11 uc11) := by simp [go_sem]
  have d0 : ((w.alloc (.cells #[.int .u64 (ib : Int), uz1, uz2, .slice ua3 un3 uc3, .slice ua4 un4 uc4, .slice ua5 un5 uc5, uz6, uz7, uz8, .int .i64 im, .int .i64 is, .slice ua11 un11 uc11] 33)).alloc (.cells #[.int .u64 (jb : Int), vz1, vz2, .slice va3 vn3 vc3, .slice va4 vn4 vc4, .slice va5 vn5 vc5, vz6, vz7, vz8, .int .i64 jm, .int .i64 js, .slice va11 vn11 vc11] 33)).cell? ⟨w.heap.size + 1, 0, none⟩ = some (.int .u64 (jb : Int)) := by simp [go_sem]
  have d1 : ((w.alloc (.cells #[.int .u64 (ib : Int), uz1, uz2, .slice ua3 un3 uc3, .slice ua4 un4 uc4, .slice ua5 un5 uc5, uz6, uz7, uz8, .int .i64 im, .int .i64 is, .slice ua11 un11 uc11] 33)).alloc (.cells #[.int .u64 (jb : Int), vz1, vz2, .slice va3 vn3 vc3, .slice va4 vn4 vc4, .slice va5 vn5 vc5, vz6, vz7, vz8, .int .i64 jm, .int .i64 js, .slice va11 vn11 vc11] 33)).cell? ⟨w.heap.size + 1, 1, none⟩ = some (vz1) := by simp [go_sem]
  have d2 : ((w.alloc (.cells #[.int .u64 (ib : Int), uz1, uz2, .slice ua3 un3 uc3, .slice ua4 un4 uc4, .slice ua5 un5 uc5, uz6, uz7, uz8, .int .i64 im, .int .i64 is, .slice ua11 un11 uc11] 33)).alloc (.cells #[.int .u64 (jb : Int), vz1, vz2, .slice va3 vn3 vc3, .slice va4 vn4 vc4, .slice va5 vn5 vc5, vz6, vz7, vz8, .int .i64 jm, .int .i64 js, .slice va11 vn11 vc11] 33)).cell? ⟨w.heap.size + 1, 2, none⟩ = some (vz2) := by simp [go_sem]
  have d3 : ((w.alloc (.cells #[.int .u64 (ib : Int), uz1, uz2, .slice ua3 un3 uc3, .slice ua4 un4 uc4, .slice ua5 un5 uc5, uz6, uz7, uz8, .int .i64 im, .int .i64 is, .slice ua11 un11 uc11] 33)).alloc (.cells #[.int .u64 (jb : Int), vz1, vz2, .slice va3 vn3 vc3, .slice va4 vn4 vc4, .slice va5 vn5 vc5, vz6, vz7, vz8, .int .i64 jm, .int .i64 js, .slice va11 vn11 vc11] 33)).cell? ⟨w.heap.size + 1, 3, none⟩ = some (.slice va3 vn3 vc3) := by simp [go_sem]
  have d4 : ((w.alloc (.cells #[.int .u64 (ib : Int), uz1, uz2, .slice ua3 un3 uc3, .slice ua4 un4 uc4, .slice ua5 un5 uc5, uz6, uz7, uz8, .int .i64 im, .int .i64 is, .slice ua11 un11 uc11] 33)).alloc (.cells #[.int .u64 (jb : Int), vz1, vz2, .slice va3 vn3 vc3, .slice va4 vn4 vc4, .slice va5 vn5 vc5, vz6, vz7, vz8, .int .i64 jm, .int .i64 js, .slice va11 vn11 vc11] 33)).cell? ⟨w.heap.size + 1, 4, none⟩ = some (.slice va4 vn4 vc4) := by simp [go_sem]
  have d5 : ((w.alloc (.cells #[.int .u64 (ib : Int), uz1, uz2, .slice ua3 un3 uc3, .slice ua4 un4 uc4, .slice ua5 un5 uc5, uz6, uz7, uz8, .int .i64 im, .int .i64 is, .slice ua11 un11 uc11] 33)).alloc (.cells #[.int .u64 (jb : Int), vz1, vz2, .slice va3 vn3 vc3, .slice va4 vn4 vc4, .slice va5 vn5 vc5, vz6, vz7, vz8, .int .i64 jm, .int .i64 js, .slice va11 vn11 vc11] 33)).cell? ⟨w.heap.size + 1, 5, none⟩ = some (.slice va5 vn5 vc5) := by simp [go_sem]
  have d6 : ((w.alloc (.cells #[.int .u64 (ib : Int), uz1, uz2, .slice ua3 un3 uc3, .slice ua4 un4 uc4, .slice ua5 un5 uc5, uz6, uz7, uz8, .int .i64 im, .int .i64 is, .slice ua11 un11 uc11] 33)).alloc (.cells #[.int .u64 (jb : Int), vz1, vz2, .slice va3 vn3 vc3, .slice va4 vn4 vc4, .slice va5 vn5 vc5, vz6, vz7, vz8, .int .i64 jm, .int .i64 js, .slice va11 vn11 vc11] 33)).cell? ⟨w.heap.size + 1, 6, none⟩ = some (vz6) := by simp [go_sem]
  have d7 : ((w.alloc (.cells #[.int .u64 (ib : Int), uz1, uz2, .slice ua3 un3 uc3, .slice ua4 un4 uc4, .slice ua5 un5 uc5, uz6, uz7, uz8, .int .i64 im, .int .i64 is, .slice ua11 un11 uc11] 33)).alloc (.cells #[.int .u64 (jb : Int), vz1, vz2, .slice va3 vn3 vc3, .slice va4 vn4 vc4, .slice va5 vn5 vc5, vz6, vz7, vz8, .int .i64 jm, .int .i64 js, .slice va11 vn11 vc11] 33)).cell? ⟨w.heap.size + 1, 7, none⟩ = some (vz7) := by simp [go_sem]
  have d8 : ((w.alloc (.cells #[.int .u64 (ib : Int), uz1, uz2, .slice ua3 un3 uc3, .slice ua4 un4 uc4, .slice ua5 un5 uc5, uz6, uz7, uz8, .int .i64 im, .int .i64 is, .slice ua11 un11 uc11] 33)).alloc (.cells #[.int .u64 (jb : Int), vz1, vz2, .slice va3 vn3 vc3, .slice va4 vn4 vc4, .slice va5 vn5 vc5, vz6, vz7, vz8, .int .i64 jm, .int .i64 js, .slice va11 vn11 vc11] 33)).cell? ⟨w.heap.size + 1, 8, none⟩ = some (vz8) := by simp [go_sem]
  have d9 : ((w.alloc (.cells #[.int .u64 (ib : Int), uz1, uz2, .slice ua3 un3 uc3, .slice ua4 un4 uc4, .slice ua5 un5 uc5, uz6, uz7, uz8, .int .i64 im, .int .i64 is, .slice ua11 un11 uc11] 33)).alloc (.cells #[.int .u64 (jb : Int), vz1, vz2, .slice va3 vn3 vc3, .slice va4 vn4 vc4, .slice va5 vn5 vc5, vz6, vz7, vz8, .int .i64 jm, .int .i64 js, .slice va11 vn11 vc11] 33)).cell? ⟨w.heap.size + 1, 9, none⟩ = some (.int .i64 jm) := by simp [go_sem]
  have d10 : ((w.alloc (.cells #[.int .u64 (ib : Int), uz1, uz2, .slice ua3 un3 uc3, .slice ua4 un4 uc4, .slice ua5 un5 uc5, uz6, uz7, uz8, .int .i64 im, .int .i64 is, .slice ua11 un11 uc11] 33)).alloc (.cells #[.int .u64 (jb : Int), vz1, vz2, .slice va3 vn3 vc3, .slice va4 vn4 vc4, .slice va5 vn5 vc5, vz6, vz7, vz8, .int .i64 jm, .int .i64 js, .slice va11 vn11 vc11] 33)).cell? ⟨w.heap.size + 1, 10, none⟩ = some (.int .i64 js) := by simp [go_sem]
  have d11 : ((w.alloc (.cells #[.int .u64 (ib : Int), uz1, uz2, .slice ua3 un3 uc3, .slice ua4 un4 uc4, .slice ua5 un5 uc5, uz6, uz7, uz8, .int .i64 im, .int .i64 is, .slice ua11 un11 uc11] 33)).alloc (.cells #[.int .u64 (jb : Int), vz1, vz2, .slice va3 vn3 vc3, .slice va4 vn4 vc4, .slice va5 vn5 vc5, vz6, vz7, vz8, .int .i64 jm, .int .i64 js, .slice va11 vn11 vc11] 33)).cell? ⟨w.heap.size + 1, 11, none⟩ = some (.slice va11 vn11 vc11) := by simp [go_sem]
  replace uH1 := Lib.hid (uH1.out.below HB9.out)
  replace uH2 := Lib.hid (uH2.out.below HB9.out)
  replace uH3 := Lib.hid (uH3.out.below HB9.out)
  replace uH4 := Lib.hid (uH4.out.below HB9.out)
  replace uH5 := Lib.hid (uH5.out.below HB9.out)
  replace uH6 := Lib.hid (uH6.out.below HB9.out)
  replace uH7 := Lib.hid (uH7.out.below HB9.out)
  replace uH8 := Lib.hid (uH8.out.below HB9.out)
  replace uH11 := Lib.hid (uH11.out.below HB9.out)
  replace vH1 := Lib.hid (vH1.out.below HB9.out)
  replace vH2 := Lib.hid (vH2.out.below HB9.out)
  replace vH3 := Lib.hid (vH3.out.below HB9.out)
  replace vH4 := Lib.hid (vH4.out.below HB9.out)
  replace vH5 := Lib.hid (vH5.out.below HB9.out)
  replace vH6 := Lib.hid (vH6.out.below HB9.out)
  replace vH7 := Lib.hid (vH7.out.below HB9.out)
  replace vH8 := Lib.hid (vH8.out.below HB9.out)
  replace vH11 := Lib.hid (vH11.out.below HB9.out)
  have Hc0 := Lib.hid c0
  have Hc1 := Lib.hid c1
  have Hc2 := Lib.hid c2
  have Hc3 := Lib.hid c3
  have Hc4 := Lib.hid c4
  have Hc5 := Lib.hid c5
  have Hc6 := Lib.hid c6
  have Hc7 := Lib.hid c7
  have Hc8 := Lib.hid c8
  have Hc9 := Lib.hid c9
  have Hc10 := Lib.hid c10
  have Hc11 := Lib.hid c11
  have Hd0 := Lib.hid d0
  have Hd1 := Lib.hid d1
  have Hd2 := Lib.hid d2
  have Hd3 := Lib.hid d3
  have Hd4 := Lib.hid d4
  have Hd5 := Lib.hid d5
  have Hd6 := Lib.hid d6
  have Hd7 := Lib.hid d7
  have Hd8 := Lib.hid d8
  have Hd9 := Lib.hid d9
  have Hd10 := Lib.hid d10
  have Hd11 := Lib.hid d11
  clear c3
  clear c4
  clear c5
  clear c6
  clear c7
  clear c8
  clear c11
  clear d3
  clear d4
  clear d5
  clear d6
  clear d7
  clear d8
  clear d11
  go_enter Tryz.func20, Tryz.ntmps20
  go_upto_region 1 with fail
  generalize ((w.alloc (.cells #[.int .u64 (ib : Int), uz1, uz2, .slice ua3 un3 uc3, .slice ua4 un4 uc4, .slice ua5 un5 uc5, uz6, uz7, uz8, .int .i64 im, .int .i64 is, .slice ua11 un11 uc11] 33)).alloc (.cells #[.int .u64 (jb : Int), vz1, vz2, .slice va3 vn3 vc3, .slice va4 vn4 vc4, .slice va5 vn5 vc5, vz6, vz7, vz8, .int .i64 jm, .int .i64 js, .slice va11 vn11 vc11] 33)) = W at *
  have lb1 := bus_load c1 c2
  have lb2 := bus_load d1 d2
  clear c1 c2 d1 d2
  by_cases eb : ib = jb
  · by_cases em : im = jm
    · by_cases es : is = js
      · subst eb em es
        go_wp2_with (first | (refine wpList_load_tyG (by kernel_rfl) 25 (.tmp 29) rfl rfl lb1 ?_) | (refine wpList_load_tyG (by kernel_rfl) 25 (.tmp 31) rfl rfl lb2 ?_))
        clear c0 d0 c9 d9 c10 d10 lb1 lb2
        refine Calls.mono (sameBusX uH1.out uH2.out vH1.out vH2.out) ?_
        rintro e w1 ⟨r, rfl, hr, hb⟩
        have HB : Hid (Below W.heap.size W w1) := hb
        clear hb
        cases r with
        | false =>
          replace hr : ¬ _ := fun h => Bool.false_ne_true (hr.2 h)
          have HR := Lib.hid hr
          clear hr
          go_wp2_with fail
          go_ret
          exact YN.no (fun hp => HR.out hp.2.2.2.1) (HB9.out.trans (HB.out.mono HB9.out.size))
        | true =>
        have HP1 := Lib.hid (hr.1 rfl)
        clear hr
        have c6 := cell_low HB.out Hc6.out
        have d6 := cell_low HB.out Hd6.out
        go_wp2_with fail
        refine Calls.mono (sameLinksX (uH6.out.below HB.out) (vH6.out.below HB.out)) ?_
        rintro e w2 ⟨r, rfl, hr, hb⟩
        replace HB : Hid (Below W.heap.size W w2) := HB.out.trans (hb.mono HB.out.size)
        clear hb
        clear c6 d6
        cases r with
        | false =>
          replace hr : ¬ _ := fun h => Bool.false_ne_true (hr.2 h)
          have HR := Lib.hid hr
          clear hr
          go_wp2_with fail
          go_ret
          exact YN.no (fun hp => HR.out hp.2.2.2.2.1) (HB9.out.trans (HB.out.mono HB9.out.size))
        | true =>
        have HP2 := Lib.hid (hr.1 rfl)
        clear hr
        have c7 := cell_low HB.out Hc7.out
        have d7 := cell_low HB.out Hd7.out
        go_wp2_with fail
        refine Calls.mono (sameLinksX (uH7.out.below HB.out) (vH7.out.below HB.out)) ?_
        rintro e w3 ⟨r, rfl, hr, hb⟩
        replace HB : Hid (Below W.heap.size W w3) := HB.out.trans (hb.mono HB.out.size)
        clear hb
        clear c7 d7
        cases r with
        | false =>
          replace hr : ¬ _ := fun h => Bool.false_ne_true (hr.2 h)
          have HR := Lib.hid hr
          clear hr
          go_wp2_with fail
          go_ret
          exact YN.no (fun hp => HR.out hp.2.2.2.2.2.1) (HB9.out.trans (HB.out.mono HB9.out.size))
        | true =>
        have HP3 := Lib.hid (hr.1 rfl)
        clear hr
        have c8 := cell_low HB.out Hc8.out
        have d8 := cell_low HB.out Hd8.out
        go_wp2_with fail
        refine Calls.mono (samePlansX (uH8.out.below HB.out) (vH8.out.below HB.out)) ?_
        rintro e w4 ⟨r, rfl, hr, hb⟩
        replace HB : Hid (Below W.heap.size W w4) := HB.out.trans (hb.mono HB.out.size)
        clear hb
        clear c8 d8
        cases r with
        | false =>
          replace hr : ¬ _ := fun h => Bool.false_ne_true (hr.2 h)
          have HR := Lib.hid hr
          clear hr
          go_wp2_with fail
          go_ret
          exact YN.no (fun hp => HR.out hp.2.2.2.2.2.2.1) (HB9.out.trans (HB.out.mono HB9.out.size))
        | true =>
        have HP4 := Lib.hid (hr.1 rfl)
        clear hr
        have c3 := cell_low HB.out Hc3.out
        have d3 := cell_low HB.out Hd3.out
        have c4 := cell_low HB.out Hc4.out
        have d4 := cell_low HB.out Hd4.out
        have c5 := cell_low HB.out Hc5.out
        have d5 := cell_low HB.out Hd5.out
        have c11 := cell_low HB.out Hc11.out
        have d11 := cell_low HB.out Hd11.out
        by_cases en3 : un3 = vn3
        case neg =>
          have je : ¬ (un3 : Int) = (vn3 : Int) := by omega
          go_wp2_with fail
          go_ret
          exact YN.no (fun hp => en3 (by rw [← uN3.out, ← vN3.out, hp.2.2.2.2.2.2.2.1])) (HB9.out.trans (HB.out.mono HB9.out.size))
        subst en3
        by_cases en4 : un4 = vn4
        case neg =>
          have je : ¬ (un4 : Int) = (vn4 : Int) := by omega
          go_wp2_with fail
          go_ret
          exact YN.no (fun hp => en4 (by rw [← uN4.out, ← vN4.out, hp.2.2.2.2.2.2.2.2.1])) (HB9.out.trans (HB.out.mono HB9.out.size))
        subst en4
        by_cases en5 : un5 = vn5
        case neg =>
          have je : ¬ (un5 : Int) = (vn5 : Int) := by omega
          go_wp2_with fail
          go_ret
          exact YN.no (fun hp => en5 (by rw [← uN5.out, ← vN5.out, hp.2.2.2.2.2.2.2.2.2.1])) (HB9.out.trans (HB.out.mono HB9.out.size))
        subst en5
        by_cases en11 : un11 = vn11
        case neg =>
          have je : ¬ (un11 : Int) = (vn11 : Int) := by omega
          go_wp2_with fail
          go_ret
          exact YN.no (fun hp => en11 (by rw [← uN11.out, ← vN11.out, ← uHTs.out, ← vHTs.out, hp.2.2.2.2.2.2.2.2.2.2])) (HB9.out.trans (HB.out.mono HB9.out.size))
        subst en11
        go_wp2_with fail
        clear c3 d3 c4 d4 c5 d5 c11 d11
        have HB0 := HB
        clear HB
        generalize w4 = w5 at *
        go_loopw [5] (fun iv wr => ∃ i : Nat, i ≤ un3 ∧ iv = .int .i64 (i : Int) ∧ Hid (∀ j (h1 : j < I.subs.length) (h2 : j < J.subs.length), j < i → I.subs[j] = J.subs[j]) ∧ Hid (Below W.heap.size W wr)) (fun iv _ => un3 - (intOf iv).toNat)
        case atStart => exact ⟨0, by omega, rfl, (fun j _ _ h => absurd h (Nat.not_lt_zero _)), HB0⟩
        clear HB0
        obtain ⟨i, hi, rfl, HEq, HB⟩ := hrel
        have c1 := cell_low HB.out Hc3.out
        have c2 := cell_low HB.out Hd3.out
        by_cases hin : i < un3
        · have ji : (i : Int) < (un3 : Int) := by omega
          have hix : i < I.subs.length := by rw [uN3.out]; exact hin
          have hiy : i < J.subs.length := by rw [vN3.out]; exact hin
          have hw1 : IntKind.i64.wrap ((i : Int) + 1) = ((i + 1 : Nat) : Int) := by rw [IntKind.wrap_i64]; omega
          obtain ⟨_, _, e', _, _, hc⟩ := uH3.out.below HB.out
          simp only [Value.slice.injEq] at e'
          obtain ⟨rfl, e9, rfl⟩ := e'
          clear e9
          obtain ⟨b, of, rfl, _, hc⟩ := hc i hix
          obtain ⟨_, _, e', _, _, hd⟩ := vH3.out.below HB.out
          simp only [Value.slice.injEq] at e'
          obtain ⟨rfl, e9, rfl⟩ := e'
          clear e9
          obtain ⟨b', of', rfl, _, hd⟩ := hd i hiy
          have HNx : Hid (I.subs[i] = J.subs[i] → ∀ j (h1 : j < I.subs.length) (h2 : j < J.subs.length), j < i + 1 → I.subs[j] = J.subs[j]) := fun e j h1 h2 h3 => by
            by_cases h : j = i
            · subst h; exact e
            · exact HEq.out j h1 h2 (by omega)
          have HNo : Hid (I.subs[i] ≠ J.subs[i] → ¬ I.subs = J.subs) := fun e h => e (by first | (subst h; rfl) | exact list_at h _ _)
          generalize I.subs[i] = x at *
          generalize J.subs[i] = y at *
          obtain ⟨T1, hT1⟩ : ∃ T1, Value.agg (tnE x).toArray = T1 := ⟨_, rfl⟩
          obtain ⟨T2, hT2⟩ : ∃ T2, Value.agg (tnE y).toArray = T2 := ⟨_, rfl⟩
          have l1 : ∀ k, (Instr.loadAt 66 (.pointer (some ⟨b, of + i * 6, none⟩))).run Tryz.prog (wr.drewN k) = .ok T1 (wr.drewN k) := fun k => by
            rw [← hT1]
            exact tn_load (w := wr.drewN k) hc
          have l2 : ∀ k, (Instr.loadAt 66 (.pointer (some ⟨b', of' + i * 6, none⟩))).run Tryz.prog (wr.drewN k) = .ok T2 (wr.drewN k) := fun k => by
            rw [← hT2]
            exact tn_load (w := wr.drewN k) hd
          have HT1 := Lib.hid hT1.symm
          have HT2 := Lib.hid hT2.symm
          clear hT1 hT2 hc hd
          by_cases hxy : x = y
          · have HNq : Hid (∀ w, (binOp .neq 66 (.agg (tnE x).toArray) (.agg (tnE y).toArray)).run Tryz.prog w = .ok (.bool false) w) := fun w => by
              rw [tn_neq, decide_eq_true ((tn_iff x y).2 hxy)]
              rfl
            have HNz := Lib.hid (HNx.out hxy)
            go_upto_region 8 with fail
            refine wp_region_quiet_lit (by kernel_rfl) (by kernel_rfl) ?_
            go_big_quiet_step (fail)
            go_big_quiet_step (fail)
            go_big_quiet_step (fail)
            go_big_quiet_step (fail)
            go_big_quiet_want
            refine quiet_load_ty 66 (.tmp 104) rfl rfl (fun W hW => by obtain ⟨k, rfl⟩ := hW; exact l1 k) ?_
            intro a' ha'
            simp only [Act.put, List.setIfInBounds_toArray, List.set_cons_succ, List.set_cons_zero] at ha'
            subst ha'
            go_big_quiet_on
            go_big_quiet_step (fail)
            go_big_quiet_step (fail)
            go_big_quiet_step (fail)
            go_big_quiet_step (fail)
            go_big_quiet_want
            refine quiet_load_ty 66 (.tmp 109) rfl rfl (fun W hW => by obtain ⟨k, rfl⟩ := hW; exact l2 k) ?_
            intro a' ha'
            simp only [Act.put, List.setIfInBounds_toArray, List.set_cons_succ, List.set_cons_zero] at ha'
            subst ha'
            go_big_quiet_on
            go_big_quiet_want
            refine quiet_neq_ty 66 (.tmp 105) (.tmp 110) rfl HT1.out HT2.out tn_guard HNq.out rfl rfl ?_
            intro a' ha'
            simp only [Act.put, List.setIfInBounds_toArray, List.set_cons_succ, List.set_cons_zero] at ha'
            subst ha'
            go_big_quiet_on
            refine wpQuiet_nil ?_
            intro W1 hw1'
            obtain ⟨nq, hw2'⟩ := hw1'
            subst hw2'
            have HB1 : Hid (Below W.heap.size W (wr.drewN nq)) := HB.out.trans ⟨rfl, rfl, rfl, Nat.le_refl _, fun _ _ => rfl⟩
            clear HB l1 l2
            generalize (wr.drewN nq) = W1 at *
            go_wp2_with fail
            go_roundw
            case rel => exact ⟨i + 1, by omega, rfl, HNz, HB1⟩
            case measure => simp [intOf]; omega
          · have HNq : Hid (∀ w, (binOp .neq 66 (.agg (tnE x).toArray) (.agg (tnE y).toArray)).run Tryz.prog w = .ok (.bool true) w) := fun w => by
              rw [tn_neq, decide_eq_false (fun h => hxy ((tn_iff x y).1 h))]
              rfl
            have HNz := Lib.hid (HNo.out hxy)
            go_upto_region 8 with fail
            refine wp_region_quiet_lit (by kernel_rfl) (by kernel_rfl) ?_
            go_big_quiet_step (fail)
            go_big_quiet_step (fail)
            go_big_quiet_step (fail)
            go_big_quiet_step (fail)
            go_big_quiet_want
            refine quiet_load_ty 66 (.tmp 104) rfl rfl (fun W hW => by obtain ⟨k, rfl⟩ := hW; exact l1 k) ?_
            intro a' ha'
            simp only [Act.put, List.setIfInBounds_toArray, List.set_cons_succ, List.set_cons_zero] at ha'
            subst ha'
            go_big_quiet_on
            go_big_quiet_step (fail)
            go_big_quiet_step (fail)
            go_big_quiet_step (fail)
            go_big_quiet_step (fail)
            go_big_quiet_want
            refine quiet_load_ty 66 (.tmp 109) rfl rfl (fun W hW => by obtain ⟨k, rfl⟩ := hW; exact l2 k) ?_
            intro a' ha'
            simp only [Act.put, List.setIfInBounds_toArray, List.set_cons_succ, List.set_cons_zero] at ha'
            subst ha'
            go_big_quiet_on
            go_big_quiet_want
            refine quiet_neq_ty 66 (.tmp 105) (.tmp 110) rfl HT1.out HT2.out tn_guard HNq.out rfl rfl ?_
            intro a' ha'
            simp only [Act.put, List.setIfInBounds_toArray, List.set_cons_succ, List.set_cons_zero] at ha'
            subst ha'
            go_big_quiet_on
            refine wpQuiet_nil ?_
            intro W1 hw1'
            obtain ⟨nq, hw2'⟩ := hw1'
            subst hw2'
            have HB1 : Hid (Below W.heap.size W (wr.drewN nq)) := HB.out.trans ⟨rfl, rfl, rfl, Nat.le_refl _, fun _ _ => rfl⟩
            clear HB l1 l2
            generalize (wr.drewN nq) = W1 at *
            go_wp2_with fail
            go_ret
            exact YN.no (fun hp => HNz.out hp.2.2.2.2.2.2.2.1) (HB9.out.trans (HB1.out.mono HB9.out.size))
        have ji : ¬ (i : Int) < (un3 : Int) := by omega
        have HFin : Hid (I.subs = J.subs) := list_eq_of (by rw [uN3.out, vN3.out]) (fun j h1 h2 => HEq.out j h1 h2 (by rw [uN3.out] at h1; omega))
        have HF3 := HFin
        clear HFin HEq
        go_wp2_with fail
        clear c1 c2 ji hin hi
        have HB0 := HB
        clear HB
        generalize wr = w5 at *
        go_loopw [6] (fun iv wr => ∃ i : Nat, i ≤ un4 ∧ iv = .int .i64 (i : Int) ∧ Hid (∀ j (h1 : j < I.ports.length) (h2 : j < J.ports.length), j < i → I.ports[j] = J.ports[j]) ∧ Hid (Below W.heap.size W wr)) (fun iv _ => un4 - (intOf iv).toNat)
        case atStart => exact ⟨0, by omega, rfl, (fun j _ _ h => absurd h (Nat.not_lt_zero _)), HB0⟩
        clear HB0
        obtain ⟨i, hi, rfl, HEq, HB⟩ := hrel
        have c1 := cell_low HB.out Hc4.out
        have c2 := cell_low HB.out Hd4.out
        by_cases hin : i < un4
        · have ji : (i : Int) < (un4 : Int) := by omega
          have hix : i < I.ports.length := by rw [uN4.out]; exact hin
          have hiy : i < J.ports.length := by rw [vN4.out]; exact hin
          have hw1 : IntKind.i64.wrap ((i : Int) + 1) = ((i + 1 : Nat) : Int) := by rw [IntKind.wrap_i64]; omega
          obtain ⟨_, _, e', _, _, hc⟩ := uH4.out.below HB.out
          simp only [Value.slice.injEq] at e'
          obtain ⟨rfl, e9, rfl⟩ := e'
          clear e9
          obtain ⟨b, of, rfl, _, hc⟩ := hc i hix
          obtain ⟨_, _, e', _, _, hd⟩ := vH4.out.below HB.out
          simp only [Value.slice.injEq] at e'
          obtain ⟨rfl, e9, rfl⟩ := e'
          clear e9
          obtain ⟨b', of', rfl, _, hd⟩ := hd i hiy
          simp only [Nat.mul_one] at hc hd
          have HNx : Hid (I.ports[i] = J.ports[i] → ∀ j (h1 : j < I.ports.length) (h2 : j < J.ports.length), j < i + 1 → I.ports[j] = J.ports[j]) := fun e j h1 h2 h3 => by
            by_cases h : j = i
            · subst h; exact e
            · exact HEq.out j h1 h2 (by omega)
          have HNo : Hid (I.ports[i] ≠ J.ports[i] → ¬ I.ports = J.ports) := fun e h => e (by first | (subst h; rfl) | exact list_at h _ _)
          generalize I.ports[i] = x at *
          generalize J.ports[i] = y at *
          obtain ⟨T1, hT1⟩ : ∃ T1, Value.agg (poE x).toArray = T1 := ⟨_, rfl⟩
          obtain ⟨T2, hT2⟩ : ∃ T2, Value.agg (poE y).toArray = T2 := ⟨_, rfl⟩
          have l1 : ∀ k, (Instr.loadAt 68 (.pointer (some ⟨b, of + i, none⟩))).run Tryz.prog (wr.drewN k) = .ok T1 (wr.drewN k) := fun k => by
            rw [← hT1]
            exact po_load (w := wr.drewN k) hc
          have l2 : ∀ k, (Instr.loadAt 68 (.pointer (some ⟨b', of' + i, none⟩))).run Tryz.prog (wr.drewN k) = .ok T2 (wr.drewN k) := fun k => by
            rw [← hT2]
            exact po_load (w := wr.drewN k) hd
          have HT1 := Lib.hid hT1.symm
          have HT2 := Lib.hid hT2.symm
          clear hT1 hT2 hc hd
          by_cases hxy : x = y
          · have HNq : Hid (∀ w, (binOp .neq 68 (.agg (poE x).toArray) (.agg (poE y).toArray)).run Tryz.prog w = .ok (.bool false) w) := fun w => by
              rw [po_neq, decide_eq_true ((po_iff x y).2 hxy)]
              rfl
            have HNz := Lib.hid (HNx.out hxy)
            go_upto_region 13 with fail
            refine wp_region_quiet_lit (by kernel_rfl) (by kernel_rfl) ?_
            go_big_quiet_step (fail)
            go_big_quiet_step (fail)
            go_big_quiet_step (fail)
            go_big_quiet_step (fail)
            go_big_quiet_want
            refine quiet_load_ty 68 (.tmp 122) rfl rfl (fun W hW => by obtain ⟨k, rfl⟩ := hW; exact l1 k) ?_
            intro a' ha'
            simp only [Act.put, List.setIfInBounds_toArray, List.set_cons_succ, List.set_cons_zero] at ha'
            subst ha'
            go_big_quiet_on
            go_big_quiet_step (fail)
            go_big_quiet_step (fail)
            go_big_quiet_step (fail)
            go_big_quiet_step (fail)
            go_big_quiet_want
            refine quiet_load_ty 68 (.tmp 127) rfl rfl (fun W hW => by obtain ⟨k, rfl⟩ := hW; exact l2 k) ?_
            intro a' ha'
            simp only [Act.put, List.setIfInBounds_toArray, List.set_cons_succ, List.set_cons_zero] at ha'
            subst ha'
            go_big_quiet_on
            go_big_quiet_want
            refine quiet_neq_ty 68 (.tmp 123) (.tmp 128) rfl HT1.out HT2.out po_guard HNq.out rfl rfl ?_
            intro a' ha'
            simp only [Act.put, List.setIfInBounds_toArray, List.set_cons_succ, List.set_cons_zero] at ha'
            subst ha'
            go_big_quiet_on
            refine wpQuiet_nil ?_
            intro W1 hw1'
            obtain ⟨nq, hw2'⟩ := hw1'
            subst hw2'
            have HB1 : Hid (Below W.heap.size W (wr.drewN nq)) := HB.out.trans ⟨rfl, rfl, rfl, Nat.le_refl _, fun _ _ => rfl⟩
            clear HB l1 l2
            generalize (wr.drewN nq) = W1 at *
            go_wp2_with fail
            go_roundw
            case rel => exact ⟨i + 1, by omega, rfl, HNz, HB1⟩
            case measure => simp [intOf]; omega
          · have HNq : Hid (∀ w, (binOp .neq 68 (.agg (poE x).toArray) (.agg (poE y).toArray)).run Tryz.prog w = .ok (.bool true) w) := fun w => by
              rw [po_neq, decide_eq_false (fun h => hxy ((po_iff x y).1 h))]
              rfl
            have HNz := Lib.hid (HNo.out hxy)
            go_upto_region 13 with fail
            refine wp_region_quiet_lit (by kernel_rfl) (by kernel_rfl) ?_
            go_big_quiet_step (fail)
            go_big_quiet_step (fail)
            go_big_quiet_step (fail)
            go_big_quiet_step (fail)
            go_big_quiet_want
            refine quiet_load_ty 68 (.tmp 122) rfl rfl (fun W hW => by obtain ⟨k, rfl⟩ := hW; exact l1 k) ?_
            intro a' ha'
            simp only [Act.put, List.setIfInBounds_toArray, List.set_cons_succ, List.set_cons_zero] at ha'
            subst ha'
            go_big_quiet_on
            go_big_quiet_step (fail)
            go_big_quiet_step (fail)
            go_big_quiet_step (fail)
            go_big_quiet_step (fail)
            go_big_quiet_want
            refine quiet_load_ty 68 (.tmp 127) rfl rfl (fun W hW => by obtain ⟨k, rfl⟩ := hW; exact l2 k) ?_
            intro a' ha'
            simp only [Act.put, List.setIfInBounds_toArray, List.set_cons_succ, List.set_cons_zero] at ha'
            subst ha'
            go_big_quiet_on
            go_big_quiet_want
            refine quiet_neq_ty 68 (.tmp 123) (.tmp 128) rfl HT1.out HT2.out po_guard HNq.out rfl rfl ?_
            intro a' ha'
            simp only [Act.put, List.setIfInBounds_toArray, List.set_cons_succ, List.set_cons_zero] at ha'
            subst ha'
            go_big_quiet_on
            refine wpQuiet_nil ?_
            intro W1 hw1'
            obtain ⟨nq, hw2'⟩ := hw1'
            subst hw2'
            have HB1 : Hid (Below W.heap.size W (wr.drewN nq)) := HB.out.trans ⟨rfl, rfl, rfl, Nat.le_refl _, fun _ _ => rfl⟩
            clear HB l1 l2
            generalize (wr.drewN nq) = W1 at *
            go_wp2_with fail
            go_ret
            exact YN.no (fun hp => HNz.out hp.2.2.2.2.2.2.2.2.1) (HB9.out.trans (HB1.out.mono HB9.out.size))
        have ji : ¬ (i : Int) < (un4 : Int) := by omega
        have HFin : Hid (I.ports = J.ports) := list_eq_of (by rw [uN4.out, vN4.out]) (fun j h1 h2 => HEq.out j h1 h2 (by rw [uN4.out] at h1; omega))
        have HF4 := HFin
        clear HFin HEq
        go_wp2_with fail
        clear c1 c2 ji hin hi
        have HB0 := HB
        clear HB
        generalize wr = w5 at *
        go_loopw [7] (fun iv wr => ∃ i : Nat, i ≤ un5 ∧ iv = .int .i64 (i : Int) ∧ Hid (∀ j (h1 : j < I.regs.length) (h2 : j < J.regs.length), j < i → I.regs[j] = J.regs[j]) ∧ Hid (Below W.heap.size W wr)) (fun iv _ => un5 - (intOf iv).toNat)
        case atStart => exact ⟨0, by omega, rfl, (fun j _ _ h => absurd h (Nat.not_lt_zero _)), HB0⟩
        clear HB0
        obtain ⟨i, hi, rfl, HEq, HB⟩ := hrel
        have c1 := cell_low HB.out Hc5.out
        have c2 := cell_low HB.out Hd5.out
        by_cases hin : i < un5
        · have ji : (i : Int) < (un5 : Int) := by omega
          have hix : i < I.regs.length := by rw [uN5.out]; exact hin
          have hiy : i < J.regs.length := by rw [vN5.out]; exact hin
          have hw1 : IntKind.i64.wrap ((i : Int) + 1) = ((i + 1 : Nat) : Int) := by rw [IntKind.wrap_i64]; omega
          obtain ⟨_, _, e', _, _, hc⟩ := uH5.out.below HB.out
          simp only [Value.slice.injEq] at e'
          obtain ⟨rfl, e9, rfl⟩ := e'
          clear e9
          obtain ⟨b, of, rfl, _, hc⟩ := hc i hix
          obtain ⟨_, _, e', _, _, hd⟩ := vH5.out.below HB.out
          simp only [Value.slice.injEq] at e'
          obtain ⟨rfl, e9, rfl⟩ := e'
          clear e9
          obtain ⟨b', of', rfl, _, hd⟩ := hd i hiy
          have HNx : Hid (I.regs[i] = J.regs[i] → ∀ j (h1 : j < I.regs.length) (h2 : j < J.regs.length), j < i + 1 → I.regs[j] = J.regs[j]) := fun e j h1 h2 h3 => by
            by_cases h : j = i
            · subst h; exact e
            · exact HEq.out j h1 h2 (by omega)
          have HNo : Hid (I.regs[i] ≠ J.regs[i] → ¬ I.regs = J.regs) := fun e h => e (by first | (subst h; rfl) | exact list_at h _ _)
          generalize I.regs[i] = x at *
          generalize J.regs[i] = y at *
          obtain ⟨T1, hT1⟩ : ∃ T1, Value.agg (gdE x).toArray = T1 := ⟨_, rfl⟩
          obtain ⟨T2, hT2⟩ : ∃ T2, Value.agg (gdE y).toArray = T2 := ⟨_, rfl⟩
          have l1 : ∀ k, (Instr.loadAt 70 (.pointer (some ⟨b, of + i * 4, none⟩))).run Tryz.prog (wr.drewN k) = .ok T1 (wr.drewN k) := fun k => by
            rw [← hT1]
            exact gd_load (w := wr.drewN k) hc
          have l2 : ∀ k, (Instr.loadAt 70 (.pointer (some ⟨b', of' + i * 4, none⟩))).run Tryz.prog (wr.drewN k) = .ok T2 (wr.drewN k) := fun k => by
            rw [← hT2]
            exact gd_load (w := wr.drewN k) hd
          have HT1 := Lib.hid hT1.symm
          have HT2 := Lib.hid hT2.symm
          clear hT1 hT2 hc hd
          by_cases hxy : x = y
          · have HNq : Hid (∀ w, (binOp .neq 70 (.agg (gdE x).toArray) (.agg (gdE y).toArray)).run Tryz.prog w = .ok (.bool false) w) := fun w => by
              rw [gd_neq, decide_eq_true ((gd_iff x y).2 hxy)]
              rfl
            have HNz := Lib.hid (HNx.out hxy)
            go_upto_region 18 with fail
            refine wp_region_quiet_lit (by kernel_rfl) (by kernel_rfl) ?_
            go_big_quiet_step (fail)
            go_big_quiet_step (fail)
            go_big_quiet_step (fail)
            go_big_quiet_step (fail)
            go_big_quiet_want
            refine quiet_load_ty 70 (.tmp 140) rfl rfl (fun W hW => by obtain ⟨k, rfl⟩ := hW; exact l1 k) ?_
            intro a' ha'
            simp only [Act.put, List.setIfInBounds_toArray, List.set_cons_succ, List.set_cons_zero] at ha'
            subst ha'
            go_big_quiet_on
            go_big_quiet_step (fail)
            go_big_quiet_step (fail)
            go_big_quiet_step (fail)
            go_big_quiet_step (fail)
            go_big_quiet_want
            refine quiet_load_ty 70 (.tmp 145) rfl rfl (fun W hW => by obtain ⟨k, rfl⟩ := hW; exact l2 k) ?_
            intro a' ha'
            simp only [Act.put, List.setIfInBounds_toArray, List.set_cons_succ, List.set_cons_zero] at ha'
            subst ha'
            go_big_quiet_on
            go_big_quiet_want
            refine quiet_neq_ty 70 (.tmp 141) (.tmp 146) rfl HT1.out HT2.out gd_guard HNq.out rfl rfl ?_
            intro a' ha'
            simp only [Act.put, List.setIfInBounds_toArray, List.set_cons_succ, List.set_cons_zero] at ha'
            subst ha'
            go_big_quiet_on
            refine wpQuiet_nil ?_
            intro W1 hw1'
            obtain ⟨nq, hw2'⟩ := hw1'
            subst hw2'
            have HB1 : Hid (Below W.heap.size W (wr.drewN nq)) := HB.out.trans ⟨rfl, rfl, rfl, Nat.le_refl _, fun _ _ => rfl⟩
            clear HB l1 l2
            generalize (wr.drewN nq) = W1 at *
            go_wp2_with fail
            go_roundw
            case rel => exact ⟨i + 1, by omega, rfl, HNz, HB1⟩
            case measure => simp [intOf]; omega
          · have HNq : Hid (∀ w, (binOp .neq 70 (.agg (gdE x).toArray) (.agg (gdE y).toArray)).run Tryz.prog w = .ok (.bool true) w) := fun w => by
              rw [gd_neq, decide_eq_false (fun h => hxy ((gd_iff x y).1 h))]
              rfl
            have HNz := Lib.hid (HNo.out hxy)
            go_upto_region 18 with fail
            refine wp_region_quiet_lit (by kernel_rfl) (by kernel_rfl) ?_
            go_big_quiet_step (fail)
            go_big_quiet_step (fail)
            go_big_quiet_step (fail)
            go_big_quiet_step (fail)
            go_big_quiet_want
            refine quiet_load_ty 70 (.tmp 140) rfl rfl (fun W hW => by obtain ⟨k, rfl⟩ := hW; exact l1 k) ?_
            intro a' ha'
            simp only [Act.put, List.setIfInBounds_toArray, List.set_cons_succ, List.set_cons_zero] at ha'
            subst ha'
            go_big_quiet_on
            go_big_quiet_step (fail)
            go_big_quiet_step (fail)
            go_big_quiet_step (fail)
            go_big_quiet_step (fail)
            go_big_quiet_want
            refine quiet_load_ty 70 (.tmp 145) rfl rfl (fun W hW => by obtain ⟨k, rfl⟩ := hW; exact l2 k) ?_
            intro a' ha'
            simp only [Act.put, List.setIfInBounds_toArray, List.set_cons_succ, List.set_cons_zero] at ha'
            subst ha'
            go_big_quiet_on
            go_big_quiet_want
            refine quiet_neq_ty 70 (.tmp 141) (.tmp 146) rfl HT1.out HT2.out gd_guard HNq.out rfl rfl ?_
            intro a' ha'
            simp only [Act.put, List.setIfInBounds_toArray, List.set_cons_succ, List.set_cons_zero] at ha'
            subst ha'
            go_big_quiet_on
            refine wpQuiet_nil ?_
            intro W1 hw1'
            obtain ⟨nq, hw2'⟩ := hw1'
            subst hw2'
            have HB1 : Hid (Below W.heap.size W (wr.drewN nq)) := HB.out.trans ⟨rfl, rfl, rfl, Nat.le_refl _, fun _ _ => rfl⟩
            clear HB l1 l2
            generalize (wr.drewN nq) = W1 at *
            go_wp2_with fail
            go_ret
            exact YN.no (fun hp => HNz.out hp.2.2.2.2.2.2.2.2.2.1) (HB9.out.trans (HB1.out.mono HB9.out.size))
        have ji : ¬ (i : Int) < (un5 : Int) := by omega
        have HFin : Hid (I.regs = J.regs) := list_eq_of (by rw [uN5.out, vN5.out]) (fun j h1 h2 => HEq.out j h1 h2 (by rw [uN5.out] at h1; omega))
        have HF5 := HFin
        clear HFin HEq
        go_wp2_with fail
        clear c1 c2 ji hin hi
        have HB0 := HB
        clear HB
        generalize wr = w5 at *
        go_loopw [8] (fun iv wr => ∃ i : Nat, i ≤ un11 ∧ iv = .int .i64 (i : Int) ∧ Hid (∀ j (h1 : j < uts.length) (h2 : j < vts.length), j < i → uts[j] = vts[j]) ∧ Hid (Below W.heap.size W wr)) (fun iv _ => un11 - (intOf iv).toNat)
        case atStart => exact ⟨0, by omega, rfl, (fun j _ _ h => absurd h (Nat.not_lt_zero _)), HB0⟩
        clear HB0
        obtain ⟨i, hi, rfl, HEq, HB⟩ := hrel
        have c1 := cell_low HB.out Hc11.out
        have c2 := cell_low HB.out Hd11.out
        by_cases hin : i < un11
        · have ji : (i : Int) < (un11 : Int) := by omega
          have hix : i < uts.length := by rw [uN11.out]; exact hin
          have hiy : i < vts.length := by rw [vN11.out]; exact hin
          have hw1 : IntKind.i64.wrap ((i : Int) + 1) = ((i + 1 : Nat) : Int) := by rw [IntKind.wrap_i64]; omega
          obtain ⟨_, _, e', _, _, hc⟩ := uH11.out.below HB.out
          simp only [Value.slice.injEq] at e'
          obtain ⟨rfl, e9, rfl⟩ := e'
          clear e9
          obtain ⟨b, of, rfl, _, hc⟩ := hc i hix
          obtain ⟨_, _, e', _, _, hd⟩ := vH11.out.below HB.out
          simp only [Value.slice.injEq] at e'
          obtain ⟨rfl, e9, rfl⟩ := e'
          clear e9
          obtain ⟨b', of', rfl, _, hd⟩ := hd i hiy
          have HNx : Hid (uts[i] = vts[i] → ∀ j (h1 : j < uts.length) (h2 : j < vts.length), j < i + 1 → uts[j] = vts[j]) := fun e j h1 h2 h3 => by
            by_cases h : j = i
            · subst h; exact e
            · exact HEq.out j h1 h2 (by omega)
          have HNo : Hid (uts[i] ≠ vts[i] → ¬ uts = vts) := fun e h => e (by first | (subst h; rfl) | exact list_at h _ _)
          generalize uts[i] = x at *
          generalize vts[i] = y at *
          obtain ⟨T1, hT1⟩ : ∃ T1, Value.agg (txE x).toArray = T1 := ⟨_, rfl⟩
          obtain ⟨T2, hT2⟩ : ∃ T2, Value.agg (txE y).toArray = T2 := ⟨_, rfl⟩
          have l1 : ∀ k, (Instr.loadAt 80 (.pointer (some ⟨b, of + i * 512, none⟩))).run Tryz.prog (wr.drewN k) = .ok T1 (wr.drewN k) := fun k => by
            rw [← hT1]
            exact tx_load (w := wr.drewN k) hc
          have l2 : ∀ k, (Instr.loadAt 80 (.pointer (some ⟨b', of' + i * 512, none⟩))).run Tryz.prog (wr.drewN k) = .ok T2 (wr.drewN k) := fun k => by
            rw [← hT2]
            exact tx_load (w := wr.drewN k) hd
          have HT1 := Lib.hid hT1.symm
          have HT2 := Lib.hid hT2.symm
          clear hT1 hT2 hc hd
          by_cases hxy : x = y
          · have HNq : Hid (∀ w, (binOp .neq 80 (.agg (txE x).toArray) (.agg (txE y).toArray)).run Tryz.prog w = .ok (.bool false) w) := fun w => by
              rw [tx_neq, decide_eq_true ((tx_iff x y).2 hxy)]
              rfl
            have HNz := Lib.hid (HNx.out hxy)
            go_upto_region 23 with fail
            refine wp_region_quiet_lit (by kernel_rfl) (by kernel_rfl) ?_
            go_big_quiet_step (fail)
            go_big_quiet_step (fail)
            go_big_quiet_step (fail)
            go_big_quiet_step (fail)
            go_big_quiet_want
            refine quiet_load_ty 80 (.tmp 158) rfl rfl (fun W hW => by obtain ⟨k, rfl⟩ := hW; exact l1 k) ?_
            intro a' ha'
            simp only [Act.put, List.setIfInBounds_toArray, List.set_cons_succ, List.set_cons_zero] at ha'
            subst ha'
            go_big_quiet_on
            go_big_quiet_step (fail)
            go_big_quiet_step (fail)
            go_big_quiet_step (fail)
            go_big_quiet_step (fail)
            go_big_quiet_want
            refine quiet_load_ty 80 (.tmp 163) rfl rfl (fun W hW => by obtain ⟨k, rfl⟩ := hW; exact l2 k) ?_
            intro a' ha'
            simp only [Act.put, List.setIfInBounds_toArray, List.set_cons_succ, List.set_cons_zero] at ha'
            subst ha'
            go_big_quiet_on
            go_big_quiet_want
            refine quiet_neq_ty 80 (.tmp 159) (.tmp 164) rfl HT1.out HT2.out tx_guard HNq.out rfl rfl ?_
            intro a' ha'
            simp only [Act.put, List.setIfInBounds_toArray, List.set_cons_succ, List.set_cons_zero] at ha'
            subst ha'
            go_big_quiet_on
            refine wpQuiet_nil ?_
            intro W1 hw1'
            obtain ⟨nq, hw2'⟩ := hw1'
            subst hw2'
            have HB1 : Hid (Below W.heap.size W (wr.drewN nq)) := HB.out.trans ⟨rfl, rfl, rfl, Nat.le_refl _, fun _ _ => rfl⟩
            clear HB l1 l2
            generalize (wr.drewN nq) = W1 at *
            go_wp2_with fail
            go_roundw
            case rel => exact ⟨i + 1, by omega, rfl, HNz, HB1⟩
            case measure => simp [intOf]; omega
          · have HNq : Hid (∀ w, (binOp .neq 80 (.agg (txE x).toArray) (.agg (txE y).toArray)).run Tryz.prog w = .ok (.bool true) w) := fun w => by
              rw [tx_neq, decide_eq_false (fun h => hxy ((tx_iff x y).1 h))]
              rfl
            have HNz := Lib.hid (HNo.out hxy)
            go_upto_region 23 with fail
            refine wp_region_quiet_lit (by kernel_rfl) (by kernel_rfl) ?_
            go_big_quiet_step (fail)
            go_big_quiet_step (fail)
            go_big_quiet_step (fail)
            go_big_quiet_step (fail)
            go_big_quiet_want
            refine quiet_load_ty 80 (.tmp 158) rfl rfl (fun W hW => by obtain ⟨k, rfl⟩ := hW; exact l1 k) ?_
            intro a' ha'
            simp only [Act.put, List.setIfInBounds_toArray, List.set_cons_succ, List.set_cons_zero] at ha'
            subst ha'
            go_big_quiet_on
            go_big_quiet_step (fail)
            go_big_quiet_step (fail)
            go_big_quiet_step (fail)
            go_big_quiet_step (fail)
            go_big_quiet_want
            refine quiet_load_ty 80 (.tmp 163) rfl rfl (fun W hW => by obtain ⟨k, rfl⟩ := hW; exact l2 k) ?_
            intro a' ha'
            simp only [Act.put, List.setIfInBounds_toArray, List.set_cons_succ, List.set_cons_zero] at ha'
            subst ha'
            go_big_quiet_on
            go_big_quiet_want
            refine quiet_neq_ty 80 (.tmp 159) (.tmp 164) rfl HT1.out HT2.out tx_guard HNq.out rfl rfl ?_
            intro a' ha'
            simp only [Act.put, List.setIfInBounds_toArray, List.set_cons_succ, List.set_cons_zero] at ha'
            subst ha'
            go_big_quiet_on
            refine wpQuiet_nil ?_
            intro W1 hw1'
            obtain ⟨nq, hw2'⟩ := hw1'
            subst hw2'
            have HB1 : Hid (Below W.heap.size W (wr.drewN nq)) := HB.out.trans ⟨rfl, rfl, rfl, Nat.le_refl _, fun _ _ => rfl⟩
            clear HB l1 l2
            generalize (wr.drewN nq) = W1 at *
            go_wp2_with fail
            go_ret
            exact YN.no (fun hp => HNz.out (by rw [← uHTs.out, ← vHTs.out]; exact hp.2.2.2.2.2.2.2.2.2.2)) (HB9.out.trans (HB1.out.mono HB9.out.size))
        have ji : ¬ (i : Int) < (un11 : Int) := by omega
        have HFin : Hid (uts = vts) := list_eq_of (by rw [uN11.out, vN11.out]) (fun j h1 h2 => HEq.out j h1 h2 (by rw [uN11.out] at h1; omega))
        have HF11 := HFin
        clear HFin HEq
        go_wp2_with fail
        go_ret
        exact YN.yes ⟨by rw [HVib.out, HVjb.out], by rw [HVim.out, HVjm.out], by rw [HVis.out, HVjs.out], HP1.out, HP2.out, HP3.out, HP4.out, HF3.out, HF4.out, HF5.out, by rw [uHTs.out, vHTs.out]; exact HF11.out⟩ (HB9.out.trans (HB.out.mono HB9.out.size))
      · clear lb1 lb2
        go_wp2_with fail
        go_ret
        exact YN.no (fun hp => es (by rw [← HVis.out, ← HVjs.out, hp.2.2.1])) HB9.out
    · clear lb1 lb2
      go_wp2_with fail
      go_ret
      exact YN.no (fun hp => em (by rw [← HVim.out, ← HVjm.out, hp.2.1])) HB9.out
  · clear lb1 lb2
    have eb' : ¬ (ib : Int) = (jb : Int) := by omega
    go_wp2_with fail
    go_ret
    exact YN.no (fun hp => eb (by rw [← HVib.out, ← HVjb.out, hp.1])) HB9.out
end Go.Proofs.YtmfkggngjeolcaaGreatDoor
/- Bundle: what is laid down says what was laid down: one part behind the other. Plain. Own work. -/
namespace Go.Proofs.YtmfkggngjeolcaaGreatDoor
open Bn
set_option linter.unusedVariables false
set_option linter.unusedSimpArgs false
theorem le_inj : ∀ (k a b : Nat), a < 256 ^ k → b < 256 ^ k → Pl.le k a = Pl.le k b → a = b
  | 0, a, b, ha, hb, _ => by simp at ha hb; omega
  | k + 1, a, b, ha, hb, h => by
    simp only [Pl.le, List.cons.injEq] at h
    have := le_inj k (a / 256) (b / 256) (by rw [Nat.pow_succ] at ha; omega) (by rw [Nat.pow_succ] at hb; omega) h.2
    omega
/-- f lays bytes behind what is there; of the same beginning with d, it says e -/
structure Cod {γ : Type} (d e : γ → γ → Prop) (f : γ → S → S) : Prop where
  up : ∀ x s, s.1 <+: (f x s).1
  why : ∀ x s, (f x s).2 = 0 → s.2 = 0
  inj : ∀ x y s t Z, d x y → s.1 = t.1 → (f x s).1 <+: Z → (f y t).1 <+: Z → (f x s).2 = 0 → (f y t).2 = 0 → e x y ∧ (f x s).1 = (f y t).1
theorem Cod.comp {γ : Type} {d e e' : γ → γ → Prop} {f g : γ → S → S} (hf : Cod d e f) (hg : Cod (fun x y => d x y ∧ e x y) e' g) : Cod d (fun x y => e x y ∧ e' x y) (fun x s => g x (f x s)) where
  up x s := (hf.up x s).trans (hg.up x _)
  why x s h := hf.why x s (hg.why x _ h)
  inj x y s t Z hd hs h1 h2 w1 w2 := by
    obtain ⟨a, b⟩ := hf.inj x y s t Z hd hs ((hg.up x _).trans h1) ((hg.up y _).trans h2) (hg.why x _ w1) (hg.why y _ w2)
    obtain ⟨a', b'⟩ := hg.inj x y _ _ Z ⟨hd, a⟩ b h1 h2 w1 w2
    exact ⟨⟨a, a'⟩, b'⟩
theorem Cod.weak {γ : Type} {d d' e e' : γ → γ → Prop} {f : γ → S → S} (hf : Cod d e f) (hd : ∀ x y, d' x y → d x y) (he : ∀ x y, d' x y → e x y → e' x y) : Cod d' e' f where
  up := hf.up
  why := hf.why
  inj x y s t Z h hs h1 h2 w1 w2 := by
    obtain ⟨a, b⟩ := hf.inj x y s t Z (hd x y h) hs h1 h2 w1 w2
    exact ⟨he x y h a, b⟩
theorem ask_zero {why : Int} {b : Bool} {n : Int} (hn : n ≠ 0) (h : askF why b n = 0) : why = 0 ∧ b = true := by
  unfold askF at h
  split at h
  · exact absurd h hn
  · rename_i h'
    subst h
    refine ⟨rfl, ?_⟩
    cases b
    · exact absurd ⟨rfl, by decide⟩ h'
    · rfl
/-- anything -/
abbrev any {γ : Type} : γ → γ → Prop := fun _ _ => True
/-- two rows, member by member -/
inductive Two {α : Type} (e : α → α → Prop) : List α → List α → Prop
  | nil : Two e [] []
  | cons {x y : α} {xs ys : List α} : e x y → Two e xs ys → Two e (x :: xs) (y :: ys)
theorem forall_eq {α : Type} : ∀ {xs ys : List α}, Two Eq xs ys → xs = ys
  | [], [], .nil => rfl
  | x :: xs, y :: ys, .cons h t => by rw [h, forall_eq t]
theorem Cod.then {γ : Type} {d e e' : γ → γ → Prop} {f g : γ → S → S} (hf : Cod d e f) (hg : Cod any e' g) : Cod d (fun x y => e x y ∧ e' x y) (fun x s => g x (f x s)) := hf.comp (hg.weak (fun _ _ _ => trivial) (fun _ _ _ h => h))
theorem Cod.ok {γ : Type} {e : γ → γ → Prop} {f : γ → S → S} (h : Cod any e f) : Cod (fun x y => (fun _ => True) x ∧ (fun _ => True) y) e f := h.weak (fun _ _ _ => trivial) (fun _ _ _ h => h)
theorem tb_inj (f g : Nat → Nat) : ∀ k, (∀ i, i < k → f i ≤ 18446744073709551615) → (∀ i, i < k → g i ≤ 18446744073709551615) → tb f k = tb g k → ∀ i, i < k → f i = g i
  | 0, _, _, _, i, hi => absurd hi (Nat.not_lt_zero _)
  | k + 1, hf, hg, h, i, hi => by
    rw [tb, tb] at h
    have hl : (tb f k).length = (tb g k).length := by rw [tb_eq, tb_eq, tbN_len, tbN_len]
    obtain ⟨h1, h2⟩ := List.append_inj h hl
    by_cases hk : i = k
    · subst hk
      exact le_inj 8 _ _ (by have := hf i (by omega); omega) (by have := hg i (by omega); omega) h2
    · exact tb_inj f g k (fun i hi => hf i (by omega)) (fun i hi => hg i (by omega)) h1 i (by omega)
theorem two_map {α β : Type} {f : α → β} : ∀ {xs ys : List α}, Two (fun x y => f x = f y) xs ys → xs.map f = ys.map f
  | [], [], .nil => rfl
  | x :: xs, y :: ys, .cons h t => by rw [List.map_cons, List.map_cons, h, two_map t]
/-- the numbers of an image are of their types -/
structure ImK (I : Im) : Prop where
  base : I.base ≤ 18446744073709551615
  rams : ∀ x ∈ I.rams, rgOk x
  devs : ∀ x ∈ I.devs, rgOk x
  regs : ∀ x ∈ I.regs, gdOk x
  tabs : ∀ x ∈ I.tabs, tbOk x
abbrev two (I J : Im) : Prop := ImK I ∧ ImK J
/-- a part, and the zeros ahead of it -/
def partS (k : Nat) (I : Im) (s : S) : S := secS I k (zerosS (begN k s.1.length - s.1.length) s)
def eightS (I : Im) (s : S) : S := partS 7 I (partS 6 I (partS 5 I (partS 4 I (partS 3 I (partS 2 I (partS 1 I (partS 0 I s)))))))
theorem tabs_len (xs : List (Nat → Nat)) (s : S) : (eachS tabS xs s).1.length = s.1.length + 4096 * xs.length := each_len (fun x s => tab_len x s) xs s
theorem st_one (I : Im) : (stN I 1).1 = List.replicate 160 0 := by
  have : begN 0 0 = 0 := by decide
  show (secS I 0 (zerosS (begN 0 0 - 0) ([], 0))).1 = _
  rw [this]
  rfl
theorem tb_same (f g : Nat → Nat) : ∀ k, (∀ i, i < k → f i = g i) → tb f k = tb g k
  | 0, _ => rfl
  | k + 1, h => by rw [tb, tb, tb_same f g k (fun i hi => h i (by omega)), h k (by omega)]
theorem tabs_same : ∀ (xs ys : List (Nat → Nat)) (s : S), xs.map tf = ys.map tf → eachS tabS xs s = eachS tabS ys s
  | [], [], s, _ => rfl
  | [], y :: ys, s, h => by simp at h
  | x :: xs, [], s, h => by simp at h
  | x :: xs, y :: ys, s, h => by
    simp only [List.map_cons, List.cons.injEq] at h
    have : tabS x s = tabS y s := by
      rw [tabS, tabS, tb_same x y 512 (fun i hi => congrFun h.1 ⟨i, hi⟩)]
    rw [eachS, eachS, this]
    exact tabs_same xs ys _ h.2
end Go.Proofs.YtmfkggngjeolcaaGreatDoor
/- Bundle: what was laid is read back. Plain. Own work. -/
namespace Go.Proofs.YtmfkggngjeolcaaGreatDoor
open Bn Dc
set_option linter.unusedVariables false
set_option linter.unusedSimpArgs false
namespace Dc
/-- these bytes stand ahead -/
structure Ah (q : Pt) (s : D) (l : List Nat) : Prop where
  rw0 : s.rw = 0
  le : s.pos + l.length ≤ q.Z.length
  eq : ∃ u, q.Z.drop s.pos = l ++ u
/-- so many bytes further -/
def fw (s : D) (n : Nat) : D := ⟨s.pos + n, 0, s.why, s.sec, s.ad⟩
theorem fw_fw (s : D) (a b : Nat) : fw (fw s a) b = fw s (a + b) := by simp [fw, Nat.add_assoc]
theorem fw_zero {s : D} (h : s.rw = 0) : fw s 0 = s := by
  obtain ⟨a, b, c, d, e⟩ := s
  dsimp only at h
  subst h
  rfl
theorem Ah.left {q : Pt} {s : D} {a b : List Nat} (h : Ah q s (a ++ b)) : Ah q s a := by
  obtain ⟨u, hu⟩ := h.eq
  refine ⟨h.rw0, ?_, b ++ u, by rw [hu, List.append_assoc]⟩
  have := h.le
  rw [List.length_append] at this
  omega
theorem Ah.right {q : Pt} {s : D} {a b : List Nat} (h : Ah q s (a ++ b)) : Ah q (fw s a.length) b := by
  obtain ⟨u, hu⟩ := h.eq
  have hl := h.le
  rw [List.length_append] at hl
  refine ⟨rfl, by show s.pos + a.length + b.length ≤ _; omega, u, ?_⟩
  show q.Z.drop (s.pos + a.length) = b ++ u
  rw [← List.drop_drop, hu, List.append_assoc, List.drop_left]
theorem take_back {q : Pt} {s : D} {k n : Nat} (h : Ah q s (Pl.le k n)) (hn : n < 256 ^ k) : takeD q k s = (n, fw s k) := by
  have hl := h.le
  rw [Pl.le_length] at hl
  obtain ⟨u, hu⟩ := h.eq
  unfold takeD fw
  rw [if_pos h.rw0, if_pos hl, hu, Pl.num_le k n u hn, h.rw0]
/-- things one behind the other: what each lays hangs on where it lies -/
def layL {γ : Type} (f : Nat → γ → List Nat) : Nat → List γ → List Nat
  | _, [] => []
  | a, x :: xs => f a x ++ layL f (a + (f a x).length) xs
theorem layL_snoc {γ : Type} (f : Nat → γ → List Nat) (x : γ) : ∀ (xs : List γ) (a : Nat), layL f a (xs ++ [x]) = layL f a xs ++ f (a + (layL f a xs).length) x
  | [], a => by simp [layL]
  | y :: ys, a => by
    rw [List.cons_append, layL, layL_snoc f x ys, layL, List.append_assoc, List.length_append, Nat.add_assoc]
theorem list_back {γ : Type} {q : Pt} {f : Nat → γ → List Nat} {one : D → γ × D} {xs : List γ} {a : Nat} {s : D} (ho : ∀ (b : Nat) (x : γ) (t : D), x ∈ xs → t.why = 0 → t.pos % 8 = b % 8 → Ah q t (f b x) → one t = (x, fw t (f b x).length)) (hw : s.why = 0) (hp : s.pos % 8 = a % 8) (h : Ah q s (layL f a xs)) : ∀ i, i ≤ xs.length → listD one i s = (xs.take i, if i = 0 then s else fw s (layL f a (xs.take i)).length)
  | 0, _ => by simp [listD]
  | i + 1, hi => by
    have ih := list_back ho hw hp h i (by omega)
    have hx : xs.take (i + 1) = xs.take i ++ [xs[i]] := List.take_succ_eq_append_getElem (by omega)
    have hxs : xs = xs.take i ++ xs.drop i := (List.take_append_drop i xs).symm
    have h1 : Ah q s (layL f a (xs.take (i + 1))) := by
      have h9 := h
      have app : ∀ (ys zs : List γ) (a : Nat), layL f a (ys ++ zs) = layL f a ys ++ layL f (a + (layL f a ys).length) zs := fun ys => by
        induction ys with
        | nil => intro zs a; simp [layL]
        | cons y ys ih => intro zs a; rw [List.cons_append, layL, ih, layL, List.append_assoc, List.length_append, Nat.add_assoc]
      rw [← List.take_append_drop (i + 1) xs, app] at h9
      exact h9.left
    rw [hx, layL_snoc] at h1
    have h2 := h1.right
    have e0 : (if i = 0 then s else fw s (layL f a (xs.take i)).length) = fw s (layL f a (xs.take i)).length := by
      split
      · rename_i e
        subst e
        show s = fw s 0
        exact (fw_zero h.rw0).symm
      · rfl
    rw [e0] at ih
    have hg : goD (listD one i s).2 = true := by
      rw [ih]
      simp [goD, fw, hw]
    rw [listD_next one i s hg, ih]
    have h3 := ho _ xs[i] (fw s (layL f a (xs.take i)).length) (List.getElem_mem _) hw (by show (s.pos + _) % 8 = (a + _) % 8; omega) h2
    dsimp only
    rw [h3, if_neg (by omega), hx, layL_snoc, List.length_append, fw_fw]
end Dc
end Go.Proofs.YtmfkggngjeolcaaGreatDoor
