import Derived.Test.YtmfkggngjeolcaaGreatDoorPk15
import Derived.Test.YtmfkggngjeolcaaGreatDoorPk08
import Derived.Deep.DeepCutAuto
import Derived.Deep.CutBlock
set_option linter.unusedSimpArgs false
set_option linter.unusedVariables false
set_option maxHeartbeats 64000000
set_option maxRecDepth 100000
namespace Go.Proofs.YtmfkggngjeolcaaGreatDoor
open Go.RowKit Bn
def stN (I : Im) : Nat → S
 | 0 => ([], 0)
 | k + 1 => secS I k (zerosS (begN k (stN I k).1.length - (stN I k).1.length) (stN I k))
def fstN (I : Im) (k : Nat) : Nat := begN k (stN I k).1.length
def lenN (I : Im) (k : Nat) : Nat := (stN I (k + 1)).1.length - fstN I k
def entC (k f l : Nat) : List Value := [.int .i64 (k : Int), .int .i64 0, .int .i64 (f : Int), .int .i64 (l : Int), .int .u32 0]
def enN (I : Im) (k : Nat) : List Value := (List.range 9).flatMap fun j => if j < k then entC j (fstN I j) (lenN I j) else entC 0 0 0
theorem enN_len (I : Im) (k : Nat) : (enN I k).length = 45 := by
 have : ∀ j, (if j < k then entC j (fstN I j) (lenN I j) else entC 0 0 0).length = 5 := fun j => by split <;> rfl
 simp [enN, List.range_succ, List.flatMap_append, this]
theorem beg_le (k a : Nat) : begN k a ≤ a + 4095 ∧ a ≤ begN k a := by
 unfold begN
 split
 ·exact up_le4 a
 ·have := up_le a; omega
theorem each_ge {α : Type} {f : α → S → S} (hf : ∀ x s, s.1.length ≤ (f x s).1.length) : ∀ (xs : List α) (s : S), s.1.length ≤ (eachS f xs s).1.length
 | [], s => Nat.le_refl _
 | x :: xs, s => Nat.le_trans (hf x s) (each_ge hf xs (f x s))
theorem gd_ge (g : Gd) (s : S) : s.1.length ≤ (gdS g s).1.length := by
 rw [gdS, textS, pad_len];have := (up_le (bytesS (bts g.txt) (wordS (g.txt.size : Int) (askS (decide (g.txt.size ≤ 1048576)) 3 (zerosS 3 (byteS (g.fill : Int) (longS g.sz (longS g.ad s))))))).1.length).2;rw [bytes_len, word_len, ask_len, zeros_len, byte_len, long_len, long_len] at this;rw [bytes_len, word_len, ask_len, zeros_len, byte_len, long_len, long_len];omega
theorem sec_ge (I : Im) (k : Nat) (s : S) : s.1.length ≤ (secS I k s).1.length := by
 match k with
 | 0 => show _ ≤ (roomS I s).1.length; rw [roomS, zeros_len, field_len]; omega
 | 1 => show _ ≤ (busS I s).1.length; rw [busS, each_len rangeS_len, each_len rangeS_len, zeros_len, half_len, half_len]; omega
 | 2 => show _ ≤ (subsS I s).1.length; rw [subsS, each_len tenS_len, many_len]; omega
 | 3 => show _ ≤ (portsS I s).1.length; rw [portsS, each_len portS_len, many_len, field_len]; omega
 | 4 =>
  show _ ≤ (regsS I s).1.length
  have := each_ge gd_ge I.regs (manyS I.regs.length s);rw [many_len] at this;rw [regsS];omega
 | 5 => show _ ≤ (chsS I s).1.length; rw [chsS, each_len chS_len, many_len]; omega
 | 6 => show _ ≤ (irqsS I s).1.length; rw [irqsS, each_len iqS_len, many_len]; omega
 | 7 => show _ ≤ (plansS I s).1.length; rw [plansS, plans_len, half_len, none_len, half_len, half_len]; omega
 | k + 8 => show _ ≤ (tabsS I s).1.length; rw [tabsS, each_len tab_len]; omega
theorem stN_le (I : Im) : ∀ k, (stN I k).1.length ≤ k * (szI I + 4096)
 | 0 => by simp [stN]
 | k + 1 => by
  have h1 := stN_le I k;have h2 := sec_len I k (zerosS (begN k (stN I k).1.length - (stN I k).1.length) (stN I k));rw [zeros_len] at h2;have h3 := beg_le k (stN I k).1.length;rw [stN, Nat.add_mul];omega
theorem fst_le (I : Im) (k : Nat) (h : k < 9) : fstN I k ≤ (stN I (k + 1)).1.length := by
 have := sec_ge I k (zerosS (begN k (stN I k).1.length - (stN I k).1.length) (stN I k));rw [zeros_len] at this;have h3 := beg_le k (stN I k).1.length;rw [stN, fstN];omega
theorem wpList_store_arr {ops : Array Oper} {rest : List Oper} {oo : Oper} {a : Act} {w : World} {Q : Exit → Act → World → Prop} (hgd : oo.guard = none) (ty : TypeId) (x y : Operand) (ho : oo.op = .store ty x y) {b : Nat} {Z g : Array Value} (hx : a.eval x = .pointer (some ⟨b, 0, none⟩)) (hy : a.eval y = .agg g) (hd : oo.dst = none) (h : w.heap[b]? = some (.cells Z ty (0, 0))) (hz : (Tryz.prog.info? ty).map (·.size) = some g.size) (hs : Z.size = g.size) (h1 : g.all (·.oneCell') = true) (hk : wpList Tryz.prog ops Q rest a (w.setRow b g)) : wpList Tryz.prog ops Q (oo :: rest) a w :=
 wpList_plain hgd fun K hK => by
  have hr : (Instr.storeAt ty (.pointer (some ⟨b, 0, none⟩)) (.agg g)).run Tryz.prog w = .ok () (w.setRow b g) := by
   simp only [Instr.storeAt, Instr.sureAddr, Sem.run_bind, Sem.run_pure, Result.andThen];exact run_storeVar_row w b ty ty Z g h hz hs h1
  unfold Oper.wp execOp;simp only [ho, hx, hy, Sem.run_bind, Sem.run_pure, Result.andThen_ok, hr];rw [Oper.upon_skip, hd];exact hK _ _ hk
theorem wpList_load_arr {ops : Array Oper} {rest : List Oper} {oo : Oper} {a : Act} {w : World} {Q : Exit → Act → World → Prop} (hgd : oo.guard = none) (ty : TypeId) (x : Operand) (ho : oo.op = .load ty x) {b : Nat} {g : Array Value} {d : TypeDesc} (hx : a.eval x = .pointer (some ⟨b, 0, none⟩)) (h : w.heap[b]? = some (.cells g ty (0, 0))) (hu : Tryz.prog.underlying ty = some d) (hd : d.isRow = true) (hz : (Tryz.prog.info? ty).map (·.size) = some g.size) (hk : wpList Tryz.prog ops Q rest (a.put oo.dst (.agg g)) w) : wpList Tryz.prog ops Q (oo :: rest) a w :=
 wpList_plain hgd fun K hK => by
  have hr : (Instr.loadAt ty (.pointer (some ⟨b, 0, none⟩))).run Tryz.prog w = .ok (.agg g) w := by
   have := run_loadAt_mid (P := Tryz.prog) w b 0 ty g.toList d (fun j v hv => by
    rw [Nat.zero_add, cell_of_row _ _ _ _ _ _ h, ← Array.getElem?_toList];exact hv) hu hd (by rw [Array.length_toList]; exact hz)
   simpa using this
  unfold Oper.wp execOp;simp only [ho, hx, Sem.run_bind, Sem.run_pure, Result.andThen_ok, hr];exact hK _ _ hk
theorem store_exec {oo : Oper} {a : Act} {w : World} (ty : TypeId) {x y : Operand} (ho : oo.op = .store ty x y) {b o : Nat} {c : Array Value} (hx : a.eval x = .pointer (some ⟨b, o, none⟩)) (hy : a.eval y = .agg c) (ht : w.there b o 5) (hi : (Tryz.prog.info? ty).map (·.size) = some 5) (hc : c.size = 5) (h1 : c.all (·.oneCell') = true := by kernel_rfl) : (execOp a.eval oo).run Tryz.prog w = .ok .skip (w.setCells b o c.toList) := by
 unfold execOp;simp only [ho, hx, hy, Sem.run_bind, Sem.run_pure, Result.andThen_ok, run_storeAt_mid w b o ty c (by rw [hc]; exact ht) (by rw [hc]; exact hi) h1]
theorem info_en : (Tryz.prog.info? 88).map (·.size) = some 5 := by kernel_rfl
def fun9 (kb : Nat) : Array Value := #[Value.func (.func 47) #[.pointer (some ⟨kb, 0, none⟩)] #[], Value.func (.func 48) #[.pointer (some ⟨kb, 0, none⟩)] #[], Value.func (.func 49) #[.pointer (some ⟨kb, 0, none⟩)] #[], Value.func (.func 50) #[.pointer (some ⟨kb, 0, none⟩)] #[], Value.func (.func 51) #[.pointer (some ⟨kb, 0, none⟩)] #[], Value.func (.func 52) #[.pointer (some ⟨kb, 0, none⟩)] #[], Value.func (.func 53) #[.pointer (some ⟨kb, 0, none⟩)] #[], Value.func (.func 54) #[.pointer (some ⟨kb, 0, none⟩)] #[], Value.func (.func 55) #[.pointer (some ⟨kb, 0, none⟩)] #[]]
def nil9 : Array Value := #[.nilFunc, .nilFunc, .nilFunc, .nilFunc, .nilFunc, .nilFunc, .nilFunc, .nilFunc, .nilFunc]
theorem info_9 (kb : Nat) : (Tryz.prog.info? 123).map (·.size) = some (fun9 kb).size := by kernel_rfl
def secFn : Nat → FuncId
 | 0 => 47
 | 1 => 48
 | 2 => 49
 | 3 => 50
 | 4 => 51
 | 5 => 52
 | 6 => 53
 | 7 => 54
 | _ => 55
theorem fun9_at (kb i : Nat) (h : i < 9) (W : World) : (Instr.index 123 (.agg (fun9 kb)) (.int .i64 (i : Int))).run Tryz.prog W = .ok (.func (.func (secFn i)) #[.pointer (some ⟨kb, 0, none⟩)] #[]) W := by
 have hu := Tryz.underlying123;have hz : (Tryz.prog.info? 1).map (·.size) = some 1 := by kernel_rfl
 have hb := Tryz.underlying1;obtain ⟨j, hi1, hi2⟩ := Option.map_eq_some_iff.1 hz;rcases (by omega : i = 0 ∨ i = 1 ∨ i = 2 ∨ i = 3 ∨ i = 4 ∨ i = 5 ∨ i = 6 ∨ i = 7 ∨ i = 8) with rfl | rfl | rfl | rfl | rfl | rfl | rfl | rfl | rfl <;> simp [Instr.index, run_underlying hu, asIntOf, sizeOf, typeInfo, hi1, hi2, part, isAgg, run_underlying hb, fun9, secFn, go_sem]
theorem enN_z (I : Im) {i : Nat} (j : Nat) (h : i < 9) (hj : j < 5) : (enN I i)[i * 5 + j]? = (entC 0 0 0)[j]? := by
 rcases (by omega : i = 0 ∨ i = 1 ∨ i = 2 ∨ i = 3 ∨ i = 4 ∨ i = 5 ∨ i = 6 ∨ i = 7 ∨ i = 8) with rfl | rfl | rfl | rfl | rfl | rfl | rfl | rfl | rfl <;> rcases (by omega : j = 0 ∨ j = 1 ∨ j = 2 ∨ j = 3 ∨ j = 4) with rfl | rfl | rfl | rfl | rfl <;> rfl
theorem enN_put (I : Im) {i : Nat} (h : i < 9) : (((((enN I i).set (i * 5) (.int .i64 (i : Int))).set (i * 5 + 1) (.int .i64 0)).set (i * 5 + 2) (.int .i64 (fstN I i : Int))).set (i * 5 + 3) (.int .i64 (lenN I i : Int))).set (i * 5 + 4) (.int .u32 0) = enN I (i + 1) := by
 rcases (by omega : i = 0 ∨ i = 1 ∨ i = 2 ∨ i = 3 ∨ i = 4 ∨ i = 5 ∨ i = 6 ∨ i = 7 ∨ i = 8) with rfl | rfl | rfl | rfl | rfl | rfl | rfl | rfl | rfl <;> rfl
theorem secEn {i : Nat} (h9 : i < 9) : ∀ (args : Array Value) (w : World), (callFunc (secFn i) args).run Tryz.prog w = .ok (.enter (secFn i) args) w := by
 rcases (by omega : i = 0 ∨ i = 1 ∨ i = 2 ∨ i = 3 ∨ i = 4 ∨ i = 5 ∨ i = 6 ∨ i = 7 ∨ i = 8) with rfl | rfl | rfl | rfl | rfl | rfl | rfl | rfl | rfl
 ·exact enters_of Tryz.func47 (by kernel_rfl) rfl
 ·exact enters_of Tryz.func48 (by kernel_rfl) rfl
 ·exact enters_of Tryz.func49 (by kernel_rfl) rfl
 ·exact enters_of Tryz.func50 (by kernel_rfl) rfl
 ·exact enters_of Tryz.func51 (by kernel_rfl) rfl
 ·exact enters_of Tryz.func52 (by kernel_rfl) rfl
 ·exact enters_of Tryz.func53 (by kernel_rfl) rfl
 ·exact enters_of Tryz.func54 (by kernel_rfl) rfl
 ·exact enters_of Tryz.func55 (by kernel_rfl) rfl
theorem secX {B kb : Nat} {im : List Value} {o : Option Nat} {w0 : World} {I : Im} {i : Nat} (h9 : i < 9) {en : List Value} {s : S} {w : World} (hI : ImG B w0 im I) (h : Sx B kb im o en w0 s w) (hl : s.1.length + szI I ≤ 269000000000) : Calls Tryz.prog (secFn i) #[.pointer (some ⟨kb, 0, none⟩)] w fun e w' => e = .returned (.tuple #[]) ∧ Sx B kb im o en w0 (secS I i s) w' := by
 rcases (by omega : i = 0 ∨ i = 1 ∨ i = 2 ∨ i = 3 ∨ i = 4 ∨ i = 5 ∨ i = 6 ∨ i = 7 ∨ i = 8) with rfl | rfl | rfl | rfl | rfl | rfl | rfl | rfl | rfl
 ·exact sec0X hI h hl
 ·exact sec1X hI h hl
 ·exact sec2X hI h hl
 ·exact sec3X hI h hl
 ·exact sec4X hI h hl
 ·exact sec5X hI h hl
 ·exact sec6X hI h hl
 ·exact sec7X hI h hl
 ·exact sec8X hI h hl
theorem fun9_one (kb : Nat) : (fun9 kb).all (·.oneCell') = true := by kernel_rfl
section
variable {B kb : Nat} {im : List Value} {o : Option Nat} {w0 : World} {w : World} {I : Im}
theorem allX (hI : ImG B w0 im I) (h : Sx B kb im o (enN I 0) w0 ([], 0) w) (hs : szI I ≤ 20000000000) : Calls Tryz.prog 24 #[.pointer (some ⟨kb, 0, none⟩)] w fun e w' => e = .returned (.tuple #[]) ∧ Sx B kb im o (enN I 9) w0 (stN I 9) w' := by
 have HIm := Lib.hid hI;have HSz : Hid (szI I ≤ 20000000000) := hs;have HLn : Hid (∀ k, k ≤ 9 → (stN I k).1.length ≤ 180000036864) := fun k hk => by
  have h1 := stN_le I k;have h2 : k * (szI I + 4096) ≤ 9 * (20000000000 + 4096) := Nat.mul_le_mul hk (by omega);omega
 have HEn1 := Lib.hid (enters_of Tryz.func57 (by kernel_rfl) rfl);have HEn2 := Lib.hid (enters_of Tryz.func56 (by kernel_rfl) rfl);have HZ0 : Hid ((w.alloc (.cells nil9 123)).heap[w.heap.size]? = some (.cells nil9 123 (0, 0))) := heap_alloc_new w _;have HZ1 : Hid (((w.alloc (.cells nil9 123)).setRow w.heap.size (fun9 kb)).heap[w.heap.size]? = some (.cells (fun9 kb) 123 (0, 0))) := setRow_heap _ _ _ _ _ _ HZ0.out;have H0 : Hid (Sx B kb im o (enN I 0) w0 (stN I 0) ((w.alloc (.cells nil9 123)).setRow w.heap.size (fun9 kb))) := Lib.hid (St.below h (((Below.refl _ _).alloc (Nat.le_refl _) _).trans (below_setRow _ _ _ _ (Nat.le_refl _))));clear h hI hs;go_enter Tryz.func24, Tryz.ntmps24
 go_wp2_with (first | (refine wpList_store_arr rfl 123 (.tmp 2) (.tmp 24) rfl (b := w.heap.size) (Z := nil9) (g := fun9 kb) rfl rfl rfl HZ0.out (info_9 kb) rfl (fun9_one kb) ?_) | (refine wpList_load_arr rfl 123 (.tmp 2) rfl (b := w.heap.size) (g := fun9 kb) rfl HZ1.out Tryz.underlying123 rfl (info_9 kb) ?_))
 clear HZ0 HZ1;go_loopw [26] (fun iv wr => ∃ i : Nat, i ≤ 9 ∧ iv = .int .i64 (i : Int) ∧ Hid (Sx B kb im o (enN I i) w0 (stN I i) wr)) (fun iv _ => 9 - (intOf iv).toNat)
 case atStart => exact ⟨0, by decide, rfl, H0⟩
 case round =>
  clear H0;obtain ⟨i, hi, rfl, HI⟩ := hrel
  by_cases h9 : i = 9
  ·subst h9;go_wp2_with fail
   go_end0
   exact ⟨rfl, HI.out⟩
  have h9 : i < 9 := by omega
  have HSx : Hid (∀ (en : List Value) (s : S) (w : World), ImG B w0 im I → Sx B kb im o en w0 s w → s.1.length + szI I ≤ 269000000000 → Calls Tryz.prog (secFn i) #[.pointer (some ⟨kb, 0, none⟩)] w fun e w' => e = .returned (.tuple #[]) ∧ Sx B kb im o en w0 (secS I i s) w') := fun en s w => secX h9;have hEF := @secEn i h9;obtain ⟨F, hF⟩ : ∃ F, secFn i = F := ⟨_, rfl⟩
  rw [hF] at HSx hEF;obtain ⟨c12, c13, c59⟩ := HI.out.cells;have HD : Hid (Sx B kb im o (enN I i) w0 (stN I i) wr.drew) := St.below HI.out ⟨rfl, rfl, rfl, Nat.le_refl _, fun _ _ => rfl⟩;have hL := HLn.out i (by omega);obtain ⟨N, hN⟩ : ∃ N, (stN I i).1.length = N := ⟨_, rfl⟩
  have hu := beg_le i N;obtain ⟨u, hu9⟩ : ∃ u, begN i N = u := ⟨_, rfl⟩
  rw [hN] at hL c13;rw [hu9] at hu;have HC0 : Hid (wr.drew.cell? ⟨kb, 13, none⟩ = some (.int .i64 (N : Int))) := hN ▸ HD.out.cells.2.1;have HU : Hid (∀ W, Calls Tryz.prog 57 #[.int .i64 (i : Int), .int .i64 (N : Int)] W fun e w' => ∃ v, e = .returned v ∧ v = .int .i64 (u : Int) ∧ w' = W) := fun W => (beginX (p := i) (a := N) (by omega) W).mono (fun e w' h => ⟨_, h.1, by rw [hu9], h.2⟩);have hsub : IntKind.i64.wrap ((u : Int) - (N : Int)) = ((u - N : Nat) : Int) := by rw [IntKind.wrap_i64]; omega
  have HZ : Hid (Calls Tryz.prog 56 #[.pointer (some ⟨kb, 0, none⟩), .int .i64 ((u - N : Nat) : Int)] wr.drew fun e w' => ∃ v, e = .returned v ∧ v = .tuple #[] ∧ Sx B kb im o (enN I i) w0 (zerosS (u - N) (stN I i)) w') := (zerosX HD.out (c := u - N) (by rw [hN]; omega)).mono (fun e w' h => ⟨_, h.1, rfl, h.2⟩);have HZl : Hid ((zerosS (u - N) (stN I i)).1.length = u) := show _ = _ by rw [zeros_len, hN]; omega
  have HSe : Hid (secS I i (zerosS (u - N) (stN I i)) = stN I (i + 1)) := show secS I i (zerosS (u - N) (stN I i)) = secS I i (zerosS (begN i (stN I i).1.length - (stN I i).1.length) (stN I i)) by rw [hN, hu9]
  have HFn : Hid (fstN I i = u) := show _ = _ by rw [fstN, hN, hu9]
  have hx9 : ∀ W, (Instr.index 123 (.agg (fun9 kb)) (.int .i64 (i : Int))).run Tryz.prog W = .ok (.func (.func F) #[.pointer (some ⟨kb, 0, none⟩)] #[]) W := fun W => hF ▸ fun9_at kb i h9 W;clear HD hN hu9 HI;go_wp2_with fail
  refine regionJ (fun w' => w'.cell? ⟨kb, 13, none⟩ = some (.int .i64 (N : Int))) 12 (by kernel_rfl) (by kernel_rfl) HC0.out (fun hS hA => ?_);refine takeL 0 30 (Value.pointer (some ⟨kb, 0, none⟩)) hA hS ?_;refine takeL 1 31 (Value.int .i64 (i : Int)) hA hS ?_;refine takeL 2 32 (Value.pointer (some ⟨kb, 0, none⟩)) hA hS ?_;refine takeL 3 33 (Value.pointer (some ⟨kb, 0, none⟩)) hA hS ?_;refine takeL 4 34 (Value.pointer (some ⟨kb, 13, none⟩)) hA hS ?_;refine takeL 5 35 (Value.int .i64 (N : Int)) hA hS ?_;refine takeL 7 37 (Value.pointer (some ⟨kb, 0, none⟩)) hA hS ?_;refine takeL 8 38 (Value.pointer (some ⟨kb, 0, none⟩)) hA hS ?_;refine takeL 9 39 (Value.pointer (some ⟨kb, 13, none⟩)) hA hS ?_;refine takeL 10 40 (Value.int .i64 (N : Int)) hA hS ?_;refine callJ (i := 6) (d := 36) (by kernel_rfl) rfl rfl (by rfl) 57 _ _ rfl HEn1.out _ (by simp [Act.eval]) (HU.out _) (fun v w' hR _ _ => ?_) (fun v x1 hR => ?_)
  ·obtain ⟨_, rfl⟩ := hR;exact hS
  obtain ⟨rfl, rfl⟩ := hR;simp only [Act.put, List.setIfInBounds_toArray, List.set_cons_zero, List.set_cons_succ];refine takeL 11 41 (Value.int .i64 ((u - N : Nat) : Int)) hA hS ?_;refine callJ (i := 12) (d := 42) (by kernel_rfl) rfl rfl (by rfl) 56 _ _ rfl HEn2.out _ (by simp [Act.eval]) HZ.out (fun v w' hR h _ => absurd rfl h) (fun v x2 hR => ?_);obtain ⟨rfl, h9'⟩ := hR;obtain ⟨d12, d13, d59⟩ := St.cells h9';rw [HZl.out] at d13;have HSc := Lib.hid (HSx.out _ _ _ HIm.out h9' (by rw [HZl.out]; have := HSz.out; omega));rw [HSe.out] at HSc;clear h9' HZ hS HZl HSe;simp only [Act.put, List.setIfInBounds_toArray, List.set_cons_zero, List.set_cons_succ];refine doneJ (by kernel_rfl) ?_ _;go_wp2_with fail
  refine HSc.out.mono ?_;rintro e w5 ⟨rfl, h5⟩;have hL5 := HLn.out (i + 1) (by omega);obtain ⟨M, hM⟩ : ∃ M, (stN I (i + 1)).1.length = M := ⟨_, rfl⟩
  have HMz : Hid ((stN I (i + 1)).1.length = M) := hM;have HMu : Hid (u ≤ M) := show _ ≤ _ by
   have h8 : fstN I i ≤ (stN I (i + 1)).1.length := fst_le I i (by omega);rw [hM, HFn.out] at h8;exact h8
  have hMu := HMu.out;rw [hM] at hL5;obtain ⟨k12, k13, k59⟩ := St.cells h5;rw [hM] at k13;have hs5 : IntKind.i64.wrap ((M : Int) - (u : Int)) = ((M - u : Nat) : Int) := by rw [IntKind.wrap_i64]; omega
  have e0 : w5.cell? ⟨kb, (14 + i * 5), none⟩ = some (.int .i64 0) := (St.cell h5 (14 + i * 5)).trans ((lyC_en (i := (i * 5)) h5.him h5.hen (by omega)).trans (enN_z I 0 h9 (by decide)));have z0 := St.free h5 (14 + i * 5);have e1 : w5.cell? ⟨kb, (14 + i * 5 + 1), none⟩ = some (.int .i64 0) := (St.cell h5 (14 + i * 5 + 1)).trans ((lyC_en (i := (i * 5 + 1)) h5.him h5.hen (by omega)).trans (enN_z I 1 h9 (by decide)));have z1 := St.free h5 (14 + i * 5 + 1);have e2 : w5.cell? ⟨kb, (14 + i * 5 + 2), none⟩ = some (.int .i64 0) := (St.cell h5 (14 + i * 5 + 2)).trans ((lyC_en (i := (i * 5 + 2)) h5.him h5.hen (by omega)).trans (enN_z I 2 h9 (by decide)));have z2 := St.free h5 (14 + i * 5 + 2);have e3 : w5.cell? ⟨kb, (14 + i * 5 + 3), none⟩ = some (.int .i64 0) := (St.cell h5 (14 + i * 5 + 3)).trans ((lyC_en (i := (i * 5 + 3)) h5.him h5.hen (by omega)).trans (enN_z I 3 h9 (by decide)));have z3 := St.free h5 (14 + i * 5 + 3);have e4 : w5.cell? ⟨kb, (14 + i * 5 + 4), none⟩ = some (.int .u32 0) := (St.cell h5 (14 + i * 5 + 4)).trans ((lyC_en (i := (i * 5 + 4)) h5.him h5.hen (by omega)).trans (enN_z I 4 h9 (by decide)));have z4 := St.free h5 (14 + i * 5 + 4);have hd5 : St B kb im o (enN I i) w0 (stN I (i + 1)).1.length (stN I (i + 1)).1 (stN I (i + 1)).2 w5.drew := St.below h5 ⟨rfl, rfl, rfl, Nat.le_refl _, fun _ _ => rfl⟩;have q0 := St.set hd5 (lyC_setEn (i := (i * 5)) (im := im) (o := o) hd5.him hd5.hen (by omega) (.int .i64 (i : Int))) (by simp [enN_len]);have q1 := St.set q0 (lyC_setEn (i := (i * 5 + 1)) (im := im) (o := o) q0.him q0.hen (by omega) (.int .i64 0)) (by simp [enN_len]);have q2 := St.set q1 (lyC_setEn (i := (i * 5 + 2)) (im := im) (o := o) q1.him q1.hen (by omega) (.int .i64 (u : Int))) (by simp [enN_len]);have q3 := St.set q2 (lyC_setEn (i := (i * 5 + 3)) (im := im) (o := o) q2.him q2.hen (by omega) (.int .i64 ((M - u : Nat) : Int))) (by simp [enN_len]);have q4 := St.set q3 (lyC_setEn (i := (i * 5 + 4)) (im := im) (o := o) q3.him q3.hen (by omega) (.int .u32 0)) (by simp [enN_len]);have HQ : Hid (St B kb im o _ w0 (stN I (i + 1)).1.length (stN I (i + 1)).1 (stN I (i + 1)).2 (w5.drew.setCells kb (14 + i * 5) [.int .i64 (i : Int), .int .i64 0, .int .i64 (u : Int), .int .i64 ((M - u : Nat) : Int), .int .u32 0])) := Lib.hid q4;have k13d : w5.drew.cell? ⟨kb, 13, none⟩ = some (.int .i64 (M : Int)) := k13;have HTh : Hid (w5.drew.there kb (14 + i * 5) 5) := fun j hj => by
   rcases (by omega : j = 0 ∨ j = 1 ∨ j = 2 ∨ j = 3 ∨ j = 4) with rfl | rfl | rfl | rfl | rfl
   ·exact ⟨by show (w5.cell? _).isSome = true; rw [Nat.add_zero, e0]; rfl, z0⟩
   ·exact ⟨by show (w5.cell? _).isSome = true; rw [e1]; rfl, z1⟩
   ·exact ⟨by show (w5.cell? _).isSome = true; rw [e2]; rfl, z2⟩
   ·exact ⟨by show (w5.cell? _).isSome = true; rw [e3]; rfl, z3⟩
   ·exact ⟨by show (w5.cell? _).isSome = true; rw [e4]; rfl, z4⟩
  have HEe : Hid ((((((enN I i).set (i * 5) (.int .i64 (i : Int))).set (i * 5 + 1) (.int .i64 0)).set (i * 5 + 2) (.int .i64 (u : Int))).set (i * 5 + 3) (.int .i64 ((M - u : Nat) : Int))).set (i * 5 + 4) (.int .u32 0) = enN I (i + 1)) := show _ = _ by
   have hl : lenN I i = M - u := by show (stN I (i + 1)).1.length - fstN I i = _; rw [hM, HFn.out]
   rw [← hl, ← HFn.out];exact enN_put I h9
  rw [HEe.out] at HQ;have HK13 : Hid ((w5.drew.setCells kb (14 + i * 5) [.int .i64 (i : Int), .int .i64 0, .int .i64 (u : Int), .int .i64 ((M - u : Nat) : Int), .int .u32 0]).cell? ⟨kb, 13, none⟩ = some (.int .i64 (M : Int))) := by
   have := HQ.out.cells.2.1;rw [hM] at this;exact Lib.hid this
  clear q0 q1 q2 q3 q4 h5 hd5 HEe hM;go_wp2_with fail
  refine wp_region_held_drew (S := fun W => W.cell? ⟨kb, 13, none⟩ = some (.int .i64 (M : Int))) (by kernel_rfl) k13d (fun hHeld => ?_);simp only [List.size_toArray, List.length_cons, List.length_nil];refine takeK 0 49 (Value.pointer (some ⟨kb, 0, none⟩)) hHeld ?_;refine takeK 1 50 (Value.int .i64 (i : Int)) hHeld ?_;refine takeK 2 51 (Value.int .i64 (i : Int)) hHeld ?_;refine takeK 3 52 (Value.int .i64 (u : Int)) hHeld ?_;refine takeK 4 53 (Value.pointer (some ⟨kb, 0, none⟩)) hHeld ?_;refine takeK 5 54 (Value.pointer (some ⟨kb, 0, none⟩)) hHeld ?_;refine takeK 6 55 (Value.pointer (some ⟨kb, 13, none⟩)) hHeld ?_;refine takeK 7 56 (Value.int .i64 (M : Int)) hHeld ?_;refine takeK 8 57 (Value.int .i64 (u : Int)) hHeld ?_;refine takeK 9 58 (Value.int .i64 ((M - u : Nat) : Int)) hHeld ?_;refine takeK 10 59 (Value.agg #[.int .i64 (i : Int), .int .i64 0, .int .i64 (u : Int), .int .i64 ((M - u : Nat) : Int), .int .u32 0]) hHeld ?_;refine takeK 11 60 (Value.pointer (some ⟨kb, 0, none⟩)) hHeld ?_;refine takeK 12 61 (Value.pointer (some ⟨kb, 14, none⟩)) hHeld ?_;refine takeK 13 62 (Value.pointer (some ⟨kb, (14 + i * 5), none⟩)) hHeld ?_;refine wpAnyH_ready (rs := [14]) (by kernel_rfl) (by simp) ?_;refine readySkip (i := 14) (w' := w5.drew.setCells kb (14 + i * 5) [.int .i64 (i : Int), .int .i64 0, .int .i64 (u : Int), .int .i64 ((M - u : Nat) : Int), .int .u32 0]) rfl rfl (by kernel_rfl) (store_exec 88 (x := .tmp 62) (y := .tmp 59) rfl (c := #[.int .i64 (i : Int), .int .i64 0, .int .i64 (u : Int), .int .i64 ((M - u : Nat) : Int), .int .u32 0]) (by simp [Act.eval]) (by simp [Act.eval]) HTh.out info_en rfl) HK13.out ?_ AllReadyH.nil;clear hHeld;refine wpAnyH_done (by kernel_rfl) ?_ _;go_wp2_with fail
  go_roundw
  case rel => exact ⟨(i + 1), by omega, rfl, HQ⟩
  case measure => simp [intOf]; omega
end
end Go.Proofs.YtmfkggngjeolcaaGreatDoor
namespace Go.Proofs.YtmfkggngjeolcaaGreatDoor
open Go.RowKit Bn
structure ImA (w : World) (im : List Value) (I : Im) : Prop where
 base : im[0]? = some (.int .u64 (I.base : Int)) ∧ I.base ≤ 18446744073709551615
 rams : ∃ v, im[1]? = some v ∧ RowG 2 rgE w v I.rams ∧ ∀ x ∈ I.rams, rgOk x
 devs : ∃ v, im[2]? = some v ∧ RowG 2 rgE w v I.devs ∧ ∀ x ∈ I.devs, rgOk x
 subs : ∃ v, im[3]? = some v ∧ RowG 6 tnE w v I.subs ∧ ∀ x ∈ I.subs, tnOk x
 ports : ∃ v, im[4]? = some v ∧ RowG 1 poE w v I.ports ∧ ∀ x ∈ I.ports, I64R x
 regs : ∃ v, im[5]? = some v ∧ RowG 4 gdE w v I.regs ∧ ∀ x ∈ I.regs, gdOk x
 chs : ∃ v, im[6]? = some v ∧ RowG 5 lkE w v I.chs ∧ ∀ x ∈ I.chs, lkOk x
 irqs : ∃ v, im[7]? = some v ∧ RowG 5 lkE w v I.irqs ∧ ∀ x ∈ I.irqs, lkOk x
 plans : ∃ v, im[8]? = some v ∧ PlG w v I.plans ∧ ∀ x ∈ I.plans, scOk x
 master : im[9]? = some (.int .i64 I.master) ∧ I64R I.master
 start : im[10]? = some (.int .i64 I.start) ∧ I64R I.start
 tabs : ∃ v, im[11]? = some v ∧ TbG w v I.tabs ∧ ∀ x ∈ I.tabs, tbOk x
 len : im.length = 12
 one : im.toArray.all (·.oneCell') = true
theorem ImA.below {w w' : World} {im : List Value} {I : Im} (h : ImA w im I) (hb : Below w.heap.size w w') : ImA w' im I := by
 obtain ⟨h1, ⟨v2, a2, b2, c2⟩, ⟨v3, a3, b3, c3⟩, ⟨v4, a4, b4, c4⟩, ⟨v5, a5, b5, c5⟩, ⟨v6, a6, b6, c6⟩, ⟨v7, a7, b7, c7⟩, ⟨v8, a8, b8, c8⟩, ⟨v9, a9, b9, c9⟩, h10, h11, ⟨v12, a12, b12, c12⟩, hl, ho⟩ := h;exact ⟨h1, ⟨v2, a2, b2.below hb, c2⟩, ⟨v3, a3, b3.below hb, c3⟩, ⟨v4, a4, b4.below hb, c4⟩, ⟨v5, a5, b5.below hb, c5⟩, ⟨v6, a6, b6.below hb, c6⟩, ⟨v7, a7, b7.below hb, c7⟩, ⟨v8, a8, b8.below hb, c8⟩, ⟨v9, a9, b9.below hb, c9⟩, h10, h11, ⟨v12, a12, b12.below hb, c12⟩, hl, ho⟩
theorem ImA.g {w : World} {im : List Value} {I : Im} (h : ImA w im I) : ImG w.heap.size w im I := by
 have k : ∀ W, Fx w.heap.size w W → Below w.heap.size w W := fun W hW => hW.below (Nat.le_refl _);obtain ⟨h1, ⟨v2, a2, b2, c2⟩, ⟨v3, a3, b3, c3⟩, ⟨v4, a4, b4, c4⟩, ⟨v5, a5, b5, c5⟩, ⟨v6, a6, b6, c6⟩, ⟨v7, a7, b7, c7⟩, ⟨v8, a8, b8, c8⟩, ⟨v9, a9, b9, c9⟩, h10, h11, ⟨v12, a12, b12, c12⟩, hl, ho⟩ := h;exact ⟨h1, ⟨v2, a2, fun W hW => b2.below (k W hW), c2⟩, ⟨v3, a3, fun W hW => b3.below (k W hW), c3⟩, ⟨v4, a4, fun W hW => b4.below (k W hW), c4⟩, ⟨v5, a5, fun W hW => b5.below (k W hW), c5⟩, ⟨v6, a6, fun W hW => b6.below (k W hW), c6⟩, ⟨v7, a7, fun W hW => b7.below (k W hW), c7⟩, ⟨v8, a8, fun W hW => b8.below (k W hW), c8⟩, ⟨v9, w, a9, b9, k, c9⟩, h10, h11, ⟨v12, a12, fun W hW => b12.below (k W hW), c12⟩⟩
def en0 : List Value := (List.replicate 9 [Value.int .i64 0, .int .i64 0, .int .i64 0, .int .i64 0, .int .u32 0]).flatten
theorem list12 {im : List Value} (h : im.length = 12) : ∃ a0 a1 a2 a3 a4 a5 a6 a7 a8 a9 b0 b1, im = [a0, a1, a2, a3, a4, a5, a6, a7, a8, a9, b0, b1] := by
 match im, h with
 | [a0, a1, a2, a3, a4, a5, a6, a7, a8, a9, b0, b1], _ => exact ⟨a0, a1, a2, a3, a4, a5, a6, a7, a8, a9, b0, b1, rfl⟩
theorem ly_build {im : List Value} (h : im.length = 12) (W : World) : (Instr.build 91 #[(0, .agg im.toArray)]).run Tryz.prog W = .ok (.agg (lyC im none 0 en0 0).toArray) W := by
 obtain ⟨a0, a1, a2, a3, a4, a5, a6, a7, a8, a9, b0, b1, rfl⟩ := list12 h;exact run_build W _ _ _ (by kernel_rfl)
theorem ly_build2 {im : List Value} (h : im.length = 12) (p : Nat) (W : World) : (Instr.build 91 #[(0, .agg im.toArray), (1, .pointer (some ⟨p, 0, none⟩))]).run Tryz.prog W = .ok (.agg (lyC im (some p) 0 en0 0).toArray) W := by
 obtain ⟨a0, a1, a2, a3, a4, a5, a6, a7, a8, a9, b0, b1, rfl⟩ := list12 h;exact run_build W _ _ _ (by kernel_rfl)
theorem info_im {im : List Value} (h : im.length = 12) : (Tryz.prog.info? 33).map (·.size) = some im.toArray.size := by
 rw [List.size_toArray, h]
 kernel_rfl
theorem wpList_lbuild {ops : Array Oper} {rest : List Oper} {oo : Oper} {a : Act} {w : World} {Q : Exit → Act → World → Prop} (hgd : oo.guard = none) (ty : TypeId) (parts : Array (Nat × Operand)) (ho : oo.op = .build ty parts) (vals : Array (Nat × Value)) (hv : (parts.map fun (i, x) => (i, a.eval x)) = vals) {V : Value} (hr : ∀ W, (Instr.build ty vals).run Tryz.prog W = .ok V W) (h : wpList Tryz.prog ops Q rest (a.put oo.dst V) w) : wpList Tryz.prog ops Q (oo :: rest) a w :=
 wpList_plain hgd fun K hK => by
  unfold Oper.wp execOp;simp only [ho, Sem.run_bind, Sem.run_pure, Result.andThen_ok, hv, hr];exact hK _ _ h
def sizeF (I : Im) : Int × Int := if (stN I 9).2 ≠ 0 then (0, (stN I 9).2) else if 1024 < (stN I 9).1.length / 4096 then (0, 4) else (((stN I 9).1.length / 4096 : Nat), 0)
theorem st_begin {w : World} {im : List Value} {I : Im} (h : ImA w im I) {o : Option Nat} {W : World} {kb : Nat} (hb : W.heap[kb]? = some (.cells (lyC im o 0 en0 0).toArray 91 (0, 0))) (ho : ∀ p, o = some p → ∃ v, Wr W p v [] 0 w.heap.size ∧ p ≠ kb ∧ w.heap.size ≤ p) (hB : w.heap.size ≤ kb) (hw : Below w.heap.size w W) : Sx w.heap.size kb im o (enN I 0) w ([], 0) W :=
 ⟨hb, h.len, enN_len I 0, ho, hB, Fx.of_below hw, fun z hz => by cases hz⟩
theorem sizeX {w : World} {im : List Value} {I : Im} (h : ImA w im I) (hs : szI I ≤ 20000000000) : Calls Tryz.prog 18 #[.agg im.toArray] w fun e w' => e = .returned (.tuple #[.int .i64 (sizeF I).1, .int .i64 (sizeF I).2]) ∧ Below w.heap.size w w' := by
 have hlen := h.len;have hb0 : (w.alloc (.cells im.toArray 33)).heap[w.heap.size]? = some (.cells im.toArray 33 (0, 0)) := heap_alloc_new w _;have HZ0 := Lib.hid hb0;have s1 : (w.alloc (.cells im.toArray 33)).heap.size = w.heap.size + 1 := by simp
 have hb1 : ((w.alloc (.cells im.toArray 33)).alloc (.cells (lyC im none 0 en0 0).toArray 91)).heap[w.heap.size + 1]? = some (.cells (lyC im none 0 en0 0).toArray 91 (0, 0)) := by
  have := heap_alloc_new (w.alloc (.cells im.toArray 33)) (.cells (lyC im none 0 en0 0).toArray 91)
  rwa [s1] at this
 have H0 := Lib.hid (st_begin h (o := none) hb1 (fun p hp => by cases hp) (Nat.le_succ _) (((Below.refl _ _).alloc (Nat.le_refl _) _).alloc (by rw [s1]; omega) _));have HB := Lib.hid (ly_build hlen);have HIn := Lib.hid (info_im hlen);have HC := Lib.hid (allX h.g H0.out hs);have HLn : Hid ((stN I 9).1.length ≤ 180000036864) := show _ ≤ _ by
  have h1 := stN_le I 9;have h2 : 9 * (szI I + 4096) ≤ 9 * (20000000000 + 4096) := Nat.mul_le_mul (Nat.le_refl _) (by omega);omega
 clear h hs hb0 hb1 s1 H0;obtain ⟨N, hN⟩ : ∃ N, (stN I 9).1.length = N := ⟨_, rfl⟩
 obtain ⟨y, hy⟩ : ∃ y, (stN I 9).2 = y := ⟨_, rfl⟩
 have HNz := Lib.hid hN;have hl9 := HLn.out;rw [hN] at hl9;have hq : Int.tdiv (N : Int) 4096 = ((N / 4096 : Nat) : Int) := rfl;have HSz : Hid (sizeF I = if y ≠ 0 then (0, y) else if 1024 < N / 4096 then (0, 4) else (((N / 4096 : Nat) : Int), 0)) := show _ = _ by rw [sizeF, hN, hy]
 rw [HSz.out];clear HSz;obtain ⟨q, hq9⟩ : ∃ q, N / 4096 = q := ⟨_, rfl⟩
 have hqw : IntKind.i64.wrap (q : Int) = (q : Int) := by rw [IntKind.wrap_i64]; omega
 rw [hq9] at hq ⊢;clear hq9;have HY := Lib.hid hy
 by_cases hy0 : y = 0
 ·subst hy0;rw [if_neg (show ¬ ((0 : Int) ≠ 0) from fun h => h rfl)]
  by_cases hq1 : 1024 < q
  ·have jq : (1024 : Int) < (q : Int) := by omega
   rw [if_pos hq1];go_enter Tryz.func18, Tryz.ntmps18
   go_wp2_with (first | (refine wpList_load_arr rfl 33 (.tmp 1) rfl (b := w.heap.size) (g := im.toArray) rfl HZ0.out Tryz.underlying33 rfl HIn.out ?_) | (refine wpList_lbuild rfl 91 #[(0, .tmp 6)] rfl #[(0, .agg im.toArray)] (by simp [Act.eval, Act.put]) (fun W => HB.out W) ?_))
   refine HC.out.mono ?_;rintro e w1 ⟨rfl, h1⟩;obtain ⟨c12, c13, c59⟩ := St.cells h1;rw [HNz.out] at c13;rw [HY.out] at c59;have HB1 : Hid (Below w.heap.size w w1) := h1.fr.below (Nat.le_refl _);clear h1 HC HZ0 HB HIn;go_wp2_with fail
   go_ret2
   exact ⟨rfl, HB1.out⟩
  ·have jq : ¬ (1024 : Int) < (q : Int) := by omega
   rw [if_neg hq1];go_enter Tryz.func18, Tryz.ntmps18
   go_wp2_with (first | (refine wpList_load_arr rfl 33 (.tmp 1) rfl (b := w.heap.size) (g := im.toArray) rfl HZ0.out Tryz.underlying33 rfl HIn.out ?_) | (refine wpList_lbuild rfl 91 #[(0, .tmp 6)] rfl #[(0, .agg im.toArray)] (by simp [Act.eval, Act.put]) (fun W => HB.out W) ?_))
   refine HC.out.mono ?_;rintro e w1 ⟨rfl, h1⟩;obtain ⟨c12, c13, c59⟩ := St.cells h1;rw [HNz.out] at c13;rw [HY.out] at c59;have HB1 : Hid (Below w.heap.size w w1) := h1.fr.below (Nat.le_refl _);clear h1 HC HZ0 HB HIn;go_wp2_with fail
   go_ret2
   exact ⟨rfl, HB1.out⟩
 ·rw [if_pos hy0];go_enter Tryz.func18, Tryz.ntmps18
  go_wp2_with (first | (refine wpList_load_arr rfl 33 (.tmp 1) rfl (b := w.heap.size) (g := im.toArray) rfl HZ0.out Tryz.underlying33 rfl HIn.out ?_) | (refine wpList_lbuild rfl 91 #[(0, .tmp 6)] rfl #[(0, .agg im.toArray)] (by simp [Act.eval, Act.put]) (fun W => HB.out W) ?_))
  refine HC.out.mono ?_;rintro e w1 ⟨rfl, h1⟩;obtain ⟨c12, c13, c59⟩ := St.cells h1;rw [HNz.out] at c13;rw [HY.out] at c59;have HB1 : Hid (Below w.heap.size w w1) := h1.fr.below (Nat.le_refl _);clear h1 HC HZ0 HB HIn;go_wp2_with fail
  go_region_held3 (fun w' => w'.cell? ⟨w.heap.size + 1, 59, none⟩ = some (.int .i64 y)) (go_keep) (fail)
  all_goals
   go_wp2_with fail
   go_ret2
   exact ⟨rfl, HB1.out.drew⟩
end Go.Proofs.YtmfkggngjeolcaaGreatDoor
namespace Go.Proofs.YtmfkggngjeolcaaGreatDoor
open Go.RowKit Bn
def entA (k f l : Nat) (c : Int) : Array Value := #[.int .i64 (k : Int), .int .i64 0, .int .i64 (f : Int), .int .i64 (l : Int), .int .u32 c]
theorem endX {k f l : Nat} {c : Int} (hf : f ≤ 1099511627776) (hl : l ≤ 1099511627776) (w : World) : Calls Tryz.prog 104 #[.agg (entA k f l c)] w fun e w' => e = .returned (.int .i64 ((f + l : Nat) : Int)) ∧ Below w.heap.size w w' := by
 have hw : IntKind.i64.wrap ((f : Int) + (l : Int)) = ((f + l : Nat) : Int) := by rw [IntKind.wrap_i64]; omega
 have HB : Hid (Below w.heap.size w (w.alloc (.cells (entA k f l c) 88))) := (Below.refl _ _).alloc (Nat.le_refl _) _;unfold entA at *;go_enter Tryz.func104, Tryz.ntmps104
 go_wp2_with fail
 go_ret
 exact ⟨rfl, HB.out⟩
theorem ofX {k f l g n cap : Nat} {c : Int} (hfl : f + l ≤ n) (hn : n ≤ cap) (hc : cap ≤ 1099511627776) (w : World) : Calls Tryz.prog 64 #[.agg (entA k f l c), .slice (some ⟨g, 0, none⟩) n cap] w fun e w' => ∃ ad, e = .returned (.slice (some ⟨g, ad, none⟩) l (cap - f)) ∧ (ad = f ∨ l = 0) ∧ Below w.heap.size w w' := by
 have HB : Hid (Below w.heap.size w (w.alloc (.cells (entA k f l c) 88))) := (Below.refl _ _).alloc (Nat.le_refl _) _;obtain ⟨W0, hW0⟩ : ∃ W0, w.alloc (.cells (entA k f l c) 88) = W0 := ⟨_, rfl⟩
 have hb : W0.heap[w.heap.size]? = some (.cells (entA k f l c) 88 (0, 0)) := hW0 ▸ heap_alloc_new w _;have HCell : Hid (∀ W, Below W0.heap.size W0 W → W.cell? ⟨w.heap.size, 0, none⟩ = some (.int .i64 (k : Int)) ∧ W.cell? ⟨w.heap.size, 1, none⟩ = some (.int .i64 0) ∧ W.cell? ⟨w.heap.size, 2, none⟩ = some (.int .i64 (f : Int)) ∧ W.cell? ⟨w.heap.size, 3, none⟩ = some (.int .i64 (l : Int)) ∧ W.cell? ⟨w.heap.size, 4, none⟩ = some (.int .u32 c)) := fun W hW => by
  have h2 := (hW.block w.heap.size (Array.getElem?_eq_some_iff.1 hb).1).trans hb;refine ⟨?_, ?_, ?_, ?_, ?_⟩ <;> (rw [cell_of_row _ _ _ _ _ _ h2]; rfl)
 rw [hW0] at HB;have HE : Hid (Calls Tryz.prog 104 #[.agg (entA k f l c)] W0.drew fun e w' => e = .returned (.int .i64 ((f + l : Nat) : Int)) ∧ (w'.cell? ⟨w.heap.size, 0, none⟩ = some (.int .i64 (k : Int)) ∧ w'.cell? ⟨w.heap.size, 1, none⟩ = some (.int .i64 0) ∧ w'.cell? ⟨w.heap.size, 2, none⟩ = some (.int .i64 (f : Int)) ∧ w'.cell? ⟨w.heap.size, 3, none⟩ = some (.int .i64 (l : Int)) ∧ w'.cell? ⟨w.heap.size, 4, none⟩ = some (.int .u32 c)) ∧ Hid (Below w.heap.size w w')) := (endX (by omega) (by omega) W0.drew).mono (fun e w' h => by
  have hb0 : Below W0.heap.size W0 W0.drew := ⟨rfl, rfl, rfl, Nat.le_refl _, fun _ _ => rfl⟩
  have hb2 : Below W0.heap.size W0 w' := hb0.trans h.2;exact ⟨h.1, HCell.out _ hb2, HB.out.trans (hb2.mono HB.out.size)⟩)
 have j1 : (f : Int) ≤ ((f + l : Nat) : Int) := by omega
 have j2 : ((f + l : Nat) : Int) ≤ (n : Int) := by omega
 have j3 : ((f + l : Nat) : Int) ≤ (cap : Int) := by omega
 have j4 : f + l ≤ cap := by omega
 have j5 : f + l - f = l := by omega
 have hS := HCell.out W0.drew ⟨rfl, rfl, rfl, Nat.le_refl _, fun _ _ => rfl⟩;obtain ⟨m, hm⟩ : ∃ m, f + l = m := ⟨_, rfl⟩
 rw [hm] at HE j1 j2 j3 j4 j5;have hm9 : m - f = l := j5
 by_cases hcf : cap - f = 0
 ·have hl0 : Hid (l = 0) := show _ = _ by omega
  unfold entA at *;go_enter Tryz.func64, Tryz.ntmps64
  go_wp2_with fail
  clear hW0 hb;go_region_held3 (fun w' => w'.cell? ⟨w.heap.size, 0, none⟩ = some (.int .i64 (k : Int)) ∧ w'.cell? ⟨w.heap.size, 1, none⟩ = some (.int .i64 0) ∧ w'.cell? ⟨w.heap.size, 2, none⟩ = some (.int .i64 (f : Int)) ∧ w'.cell? ⟨w.heap.size, 3, none⟩ = some (.int .i64 (l : Int)) ∧ w'.cell? ⟨w.heap.size, 4, none⟩ = some (.int .u32 c)) (go_keep) (first | (go_at_call 104; refine HE.out.mono ?_; rintro e w5 ⟨rfl, ⟨k0, k1, k2, k3, k4⟩, H5⟩))
  all_goals
   go_wp2_with fail
   go_ret
   exact ⟨0, by first | rfl | (rw [Nat.sub_self]; rfl) | (rw [hcf]; rfl), .inr hl0.out, H5.out⟩
 ·have hcf1 : 0 < cap - f := by omega
  unfold entA at *;go_enter Tryz.func64, Tryz.ntmps64
  go_wp2_with fail
  clear hW0 hb;go_region_held3 (fun w' => w'.cell? ⟨w.heap.size, 0, none⟩ = some (.int .i64 (k : Int)) ∧ w'.cell? ⟨w.heap.size, 1, none⟩ = some (.int .i64 0) ∧ w'.cell? ⟨w.heap.size, 2, none⟩ = some (.int .i64 (f : Int)) ∧ w'.cell? ⟨w.heap.size, 3, none⟩ = some (.int .i64 (l : Int)) ∧ w'.cell? ⟨w.heap.size, 4, none⟩ = some (.int .u32 c)) (go_keep) (first | (go_at_call 104; refine HE.out.mono ?_; rintro e w5 ⟨rfl, ⟨k0, k1, k2, k3, k4⟩, H5⟩))
  all_goals
   go_wp2_with fail
   go_ret
   exact ⟨f, by rw [← hm9]; rfl, .inl rfl, H5.out⟩
def entB (k f l c : Nat) : List Nat := Pl.le 2 k ++ Pl.le 2 0 ++ Pl.le 4 f ++ Pl.le 4 l ++ Pl.le 4 c
theorem entB_len (k f l c : Nat) : (entB k f l c).length = 16 := by simp [entB, Pl.le_length]
def WkS (base p : Nat) (w : World) (q : Nat) : Prop := q = p ∨ base ≤ q ∧ ∃ cur, w.heap[q]? = some (.cells cur 5 (0, 0))
def Wk (base p : Nat) (w w' : World) : Prop := Keeps (WkS base p w) w w'
theorem Wk.refl (base p : Nat) (w : World) : Wk base p w w := Keeps.refl _ _
theorem Wk.trans {base p : Nat} {a b c : World} (h : Wk base p a b) (k : Wk base p b c) : Wk base p a c := by
 refine ⟨k.os.trans h.os, k.tape.trans h.tape, k.output.trans h.output, Nat.le_trans h.size k.size, fun i hi hn => ?_⟩;have e := h.block i hi hn;refine (k.block i (Nat.lt_of_lt_of_le hi h.size) (fun hs => hn ?_)).trans e;rcases hs with hs | ⟨h0, cur, hc⟩
 ·exact .inl hs
 ·exact .inr ⟨h0, cur, e.symm.trans hc⟩
theorem Wk.of_below {base p : Nat} {w w' : World} (h : Below w.heap.size w w') : Wk base p w w' := Keeps.of_below h
theorem Wk.of_foot {base p : Nat} {w w' : World} {v : Value} {zs : List Nat} {why : Int} (h : Wr w p v zs why base) (k : Keeps (Foot p v) w w') : Wk base p w w' := Keeps.mono k (fun i _ e => by
 rcases e with e | e
 ·exact .inl e
 ·refine .inr ⟨(h.2.1.lt i e).1, ?_⟩;rcases h.2.1.2 with ⟨rfl, _⟩ | ⟨g, cap, cur, rfl, _, hg, _⟩
  ·cases e
  ·cases e
   exact ⟨_, hg⟩)
theorem Wk.below {base p : Nat} {w w' : World} (h : Wk base p w w') (hp : base ≤ p) (hb : base ≤ w.heap.size) : Below base w w' := Keeps.below h hb (fun k _ e => by
 rcases e with e | e
 ·omega
 ·exact e.1)
theorem Wk.block' {base p : Nat} {w w' : World} (h : Wk base p w w') {t : TypeId} {g : Nat} {cur : Array Value} (hg : w.heap[g]? = some (.cells cur t (0, 0))) (ht : t ≠ 5) (hp : g ≠ p) : w'.heap[g]? = some (.cells cur t (0, 0)) := (Keeps.block h g (Array.getElem?_eq_some_iff.1 hg).1 (by
 rintro (e | ⟨_, c, hc⟩)
 ·exact hp e
 ·rw [hg] at hc;simp at hc
  exact ht hc.2)).trans hg
theorem elayX {k f l c p base : Nat} {v : Value} {zs : List Nat} {w : World} (h : Wr w p v zs 0 base) (hk : k ≤ 65535) (hf : f ≤ 4294967295) (hl : l ≤ 4294967295) (hc : c ≤ 4294967295) (hz : zs.length ≤ 100000) (hb : base ≤ w.heap.size) : Calls Tryz.prog 65 #[.agg (entA k f l (c : Int)), .pointer (some ⟨p, 0, none⟩)] w fun e w' => e = .returned (.tuple #[]) ∧ ∃ v', Wr w' p v' (zs ++ entB k f l c) 0 base ∧ Wk base p w w' := by
 have hj0 : IntKind.u16.wrap (k : Int) = (k : Int) := by rw [IntKind.wrap_u16]; omega
 have hj1 : IntKind.u16.wrap 0 = 0 := by rw [IntKind.wrap_u16]; omega
 have hj2 : IntKind.u32.wrap (f : Int) = (f : Int) := by rw [IntKind.wrap_u32]; omega
 have hj3 : IntKind.u32.wrap (l : Int) = (l : Int) := by rw [IntKind.wrap_u32]; omega
 have hpl := h.lt;obtain ⟨W0, hW0⟩ : ∃ W0, w.alloc (.cells (entA k f l (c : Int)) 88) = W0 := ⟨_, rfl⟩
 have hbl : Below w.heap.size w W0 := hW0 ▸ (Below.refl _ _).alloc (Nat.le_refl _) _;have hx0 : W0.heap[w.heap.size]? = some (.cells (entA k f l (c : Int)) 88 (0, 0)) := hW0 ▸ heap_alloc_new w _;have HBx : Hid (∀ W, Wk base p W0 W → W.cell? ⟨w.heap.size, 0, none⟩ = some (.int .i64 (k : Int)) ∧ W.cell? ⟨w.heap.size, 1, none⟩ = some (.int .i64 0) ∧ W.cell? ⟨w.heap.size, 2, none⟩ = some (.int .i64 (f : Int)) ∧ W.cell? ⟨w.heap.size, 3, none⟩ = some (.int .i64 (l : Int)) ∧ W.cell? ⟨w.heap.size, 4, none⟩ = some (.int .u32 (c : Int))) := fun W hW => by
  have h2 := hW.block' hx0 (by decide) (by omega);refine ⟨?_, ?_, ?_, ?_, ?_⟩ <;> (rw [cell_of_row _ _ _ _ _ _ h2]; rfl)
 have HW0 : Hid (Wr W0 p v zs 0 base) := ⟨(hbl.block p hpl).trans h.1, h.2.1.below hbl, h.2.2⟩
 have HKw : Hid (Wk base p w W0) := Wk.of_below hbl;have HZ : Hid (zs.length ≤ 100000) := hz;have HB0 : Hid (base ≤ W0.heap.size) := Nat.le_trans hb hbl.size;obtain ⟨d0, d1, d2, d3, d4⟩ := HBx.out W0 (Wk.refl _ _ _);clear h hz hb hbl hx0;unfold entA at *;go_enter Tryz.func65, Tryz.ntmps65
 go_wp2_with fail
 clear hW0;refine (put_u16 (n := k) HW0.out hk (by (try simp only [List.length_append, Pl.le_length]); have := HZ.out; omega) HB0.out).mono ?_;rintro e w1 ⟨rfl, v1, hv1, hk1, _⟩;have HW1 := Lib.hid hv1;have HK1 : Hid (Wk base p W0 w1) := Wk.of_foot HW0.out hk1;clear d0 d1 d2 d3 d4;obtain ⟨d0, d1, d2, d3, d4⟩ := HBx.out w1 HK1.out;clear hv1 hk1 HW0;go_wp2_with fail
 refine (put_u16 (n := 0) HW1.out (Nat.zero_le _) (by (try simp only [List.length_append, Pl.le_length]); have := HZ.out; omega) (Nat.le_trans HB0.out HK1.out.size)).mono ?_;rintro e w2 ⟨rfl, v2, hv2, hk2, _⟩;have HW2 := Lib.hid hv2;have HK2 : Hid (Wk base p W0 w2) := HK1.out.trans (Wk.of_foot HW1.out hk2);clear d0 d1 d2 d3 d4;obtain ⟨d0, d1, d2, d3, d4⟩ := HBx.out w2 HK2.out;clear hv2 hk2 HW1;go_wp2_with fail
 refine (put_u32 (n := f) HW2.out hf (by (try simp only [List.length_append, Pl.le_length]); have := HZ.out; omega) (Nat.le_trans HB0.out HK2.out.size)).mono ?_;rintro e w3 ⟨rfl, v3, hv3, hk3, _⟩;have HW3 := Lib.hid hv3;have HK3 : Hid (Wk base p W0 w3) := HK2.out.trans (Wk.of_foot HW2.out hk3);clear d0 d1 d2 d3 d4;obtain ⟨d0, d1, d2, d3, d4⟩ := HBx.out w3 HK3.out;clear hv3 hk3 HW2;go_wp2_with fail
 refine (put_u32 (n := l) HW3.out hl (by (try simp only [List.length_append, Pl.le_length]); have := HZ.out; omega) (Nat.le_trans HB0.out HK3.out.size)).mono ?_;rintro e w4 ⟨rfl, v4, hv4, hk4, _⟩;have HW4 := Lib.hid hv4;have HK4 : Hid (Wk base p W0 w4) := HK3.out.trans (Wk.of_foot HW3.out hk4);clear d0 d1 d2 d3 d4;obtain ⟨d0, d1, d2, d3, d4⟩ := HBx.out w4 HK4.out;clear hv4 hk4 HW3;go_wp2_with fail
 refine (put_u32 (n := c) HW4.out hc (by (try simp only [List.length_append, Pl.le_length]); have := HZ.out; omega) (Nat.le_trans HB0.out HK4.out.size)).mono ?_;rintro e w5 ⟨rfl, v5, hv5, hk5, _⟩;have HW5 := Lib.hid hv5;have HK5 : Hid (Wk base p W0 w5) := HK4.out.trans (Wk.of_foot HW4.out hk5);clear d0 d1 d2 d3 d4;clear hv5 hk5 HW4;go_wp2_with fail
 go_end0
 refine ⟨rfl, v5, ?_, HKw.out.trans HK5.out⟩;have h9 := HW5.out;unfold entB;simp only [List.append_assoc] at h9 ⊢;exact h9
end Go.Proofs.YtmfkggngjeolcaaGreatDoor
