import Derived.Test.YtddgoncbdlhhhaaGreatR02
import Derived.Shelf.Bits.Mul64
import Derived.Lib.MakeNoZero
import Derived.Laws.CopyOwn
/- bytes.Repeat of one byte. Own work. -/
namespace Go.Proofs.YtddgoncbdlhhhaaGreat
open Go.RowKit
def ren264 : Go.Shelf.Ren := ⟨fun | 264 => 120 | n => n, fun | 53 => 26 | 46 => 93 | n => n, fun | n => n⟩
theorem lays264 : Go.Proofs.Lays.n264 Tryz.prog ren264 := {
  mixed := by kernel_rfl
  f264 := Tryz.func120.trans (congrArg some (by kernel_rfl))
  t46 := Tryz.underlying93
  a46 := Tryz.isAgg93
  z46 := Tryz.sizeOf93
  v46 := Tryz.zeroValue93
  t53 := Tryz.underlying26
  a53 := Tryz.isAgg26
  z53 := Tryz.sizeOf26
  v53 := Tryz.zeroValue26 }
theorem mul64_small (x y m : Nat) (hm : x * y = m) (h : m < 18446744073709551616) (hx : x < 18446744073709551616) (hy : y < 18446744073709551616) (w : World) :
    Calls Tryz.prog 120 #[.int .u64 x, .int .u64 y] w fun e w' => e = .returned (.tuple #[.int .u64 0, .int .u64 m]) ∧ w' = w := by
  have c : Calls Tryz.prog 120 #[.int .u64 x, .int .u64 y] w fun e w' => e = .returned (.tuple #[.int .u64 ((x * y / 18446744073709551616 : Nat) : Int), .int .u64 ((x * y % 18446744073709551616 : Nat) : Int)]) ∧ w' = w := Any.bits_Mul64 lays264 x y hx hy w
  rw [hm, Nat.div_eq_of_lt h, Nat.mod_eq_of_lt h] at c
  exact c
set_option maxRecDepth 100000 in
set_option maxHeartbeats 2000000 in
theorem bitsMul_one {n : Nat} (hn : n ≤ 4096) (w : World) : Calls Tryz.prog 101 #[.int .u64 1, .int .u64 (n : Int)] w fun e w' => e = .returned (.tuple #[.int .u64 0, .int .u64 (n : Int)]) ∧ w' = w := by
  have HM : Hid (∀ w : World, Calls Tryz.prog 120 #[.int .u64 1, .int .u64 (n : Int)] w fun e w' => e = .returned (.tuple #[.int .u64 0, .int .u64 (n : Int)]) ∧ w' = w) := fun w => mul64_small 1 n n (by omega) (by omega) (by omega) (by omega) w
  go_enter Tryz.func101, Tryz.ntmps101
  go_wp2_with (first | (go_at_call 120; refine (HM.out _).mono ?_; rintro e w' ⟨rfl, hw⟩; have hw := hw.symm; subst hw))
  go_ret2
  exact ⟨rfl, rfl⟩
/-- a row whose first k cells are z -/
def FillR (w : World) (g z k C : Nat) : Prop := ∃ cur : List Value, cur.length = C ∧ w.heap[g]? = some (.cells cur.toArray 5 (0, 0)) ∧ ∀ i, i < k → cur[i]? = some (.int .u8 (z : Int))
theorem FillR.at {w : World} {g z k C : Nat} (h : FillR w g z k C) (j : Nat) (hj : j < k) : w.cell? ⟨g, j, none⟩ = some (.int .u8 (z : Int)) := by
  obtain ⟨cur, _, h1, h2⟩ := h
  rw [cell_of_row w g j _ _ _ h1, List.getElem?_toArray, h2 j hj]
theorem fill_more {w' : World} {g z k C c : Nat} {cur : List Value} (hl : cur.length = C) (h2 : ∀ i, i < k → cur[i]? = some (.int .u8 (z : Int))) (hfit : k + c ≤ C)
    (hg : w'.heap[g]? = some (.cells (cur.take k ++ (List.replicate c (Value.int .u8 (z : Int)) ++ cur.drop (k + c))).toArray 5 (0, 0))) : FillR w' g z (k + c) C := by
  have hlk : (cur.take k).length = k := by rw [List.length_take]; omega
  refine ⟨_, ?_, hg, fun i hi => ?_⟩
  · rw [List.length_append, List.length_append, hlk, List.length_replicate, List.length_drop]; omega
  · by_cases h : i < k
    · rw [List.getElem?_append_left (by rw [hlk]; exact h), List.getElem?_take_of_lt h, h2 i h]
    · rw [List.getElem?_append_right (by rw [hlk]; omega), hlk, List.getElem?_append_left (by rw [List.length_replicate]; omega), List.getElem?_replicate, if_pos (by omega)]
theorem wpList_copy_z {w : World} {ops : Array Oper} {rest : List Oper} {o : Oper} {a : Act} {Q : Exit → Act → World → Prop} (hgd : o.guard = none) (d s : Operand)
    (ho : o.op = .call { callee := .builtin .copy, args := #[d, s], argTypes := #[27, 27] }) {g off dl dc gs so sl sc z C : Nat} (hd : a.eval d = .slice (some ⟨g, off, none⟩) dl dc) (hs : a.eval s = .slice (some ⟨gs, so, none⟩) sl sc)
    (hf : FillR w g z off C) (c : Nat) (hc : c = Nat.min sl dl) (hsrc : ∀ j, j < c → w.cell? ⟨gs, so + j, none⟩ = some (.int .u8 (z : Int))) (hfit : off + c ≤ C)
    (h : ∀ w', FillR w' g z (off + c) C → Keeps (fun j => j = g) w w' → wpList Tryz.prog ops Q rest (a.put o.dst (goInt c)) w') : wpList Tryz.prog ops Q (o :: rest) a w := by
  obtain ⟨i, hi, hz0, hz1, hz2⟩ := info_parts info_byte
  have hsz : (Tryz.prog.info? 5).map (·.size) = some 1 := by rw [hi, Option.map_some, hz1]
  obtain ⟨cur, hl, hg, h2⟩ := hf
  have hcl : (List.replicate c (Value.int .u8 (z : Int))).length = c := List.length_replicate
  refine wpList_copy_own hgd d s _ _ ho 5 Tryz.underlying27 hsz g off dl dc ⟨gs, so, none⟩ sl sc hd hs cur.toArray 5 hg (List.replicate c (Value.int .u8 (z : Int))) (by rw [hcl]; exact hc) ?_ (by rw [hcl]; simpa using (by omega : off + c ≤ cur.length)) (fun v hv => by rw [List.eq_of_mem_replicate hv]; rfl) ?_
  · intro j u hj
    have hjl : j < c := by rw [← hcl]; exact (List.getElem?_eq_some_iff.1 hj).1
    rw [List.getElem?_replicate, if_pos hjl] at hj
    cases hj
    rw [Addr.add_lit, hsrc j hjl]
  · rw [hcl]
    exact h _ (fill_more hl h2 hfit (by simpa using setRow_heap w g _ _ _ _ hg)) (Keeps.setRow _ _ _)
theorem step_copy_z {w : World} {ops : Array Oper} {o : Oper} {a : Act} {K : Act → World → Prop} {Q : Exit → Act → World → Prop} {E : Prop} (hw : Region.wanted o (yielded ops a.tmps) = true) (d s : Operand)
    (ho : o.op = .call { callee := .builtin .copy, args := #[d, s], argTypes := #[27, 27] }) {g off dl dc so sl sc gs z C : Nat} (hd : a.eval d = .slice (some ⟨g, off, none⟩) dl dc) (hs : a.eval s = .slice (some ⟨gs, so, none⟩) sl sc)
    (hf : FillR w g z off C) (c : Nat) (hc : c = Nat.min sl dl) (hsrc : ∀ j, j < c → w.cell? ⟨gs, so + j, none⟩ = some (.int .u8 (z : Int))) (hfit : off + c ≤ C)
    (h : ∀ w', FillR w' g z (off + c) C → Keeps (fun j => j = g) w w' → K (a.put o.dst (goInt c)) w') : if Region.wanted o (yielded ops a.tmps) = true then Oper.wp Tryz.prog o a w K Q else E := by
  rw [if_pos hw]
  obtain ⟨i, hi, hz0, hz1, hz2⟩ := info_parts info_byte
  have hsz : (Tryz.prog.info? 5).map (·.size) = some 1 := by rw [hi, Option.map_some, hz1]
  obtain ⟨cur, hl, hg, h2⟩ := hf
  have hcl : (List.replicate c (Value.int .u8 (z : Int))).length = c := List.length_replicate
  have hrun := run_copy_row (P := Tryz.prog) w 27 27 o.type 5 g off dl dc ⟨gs, so, none⟩ sl sc cur.toArray 5 (List.replicate c (Value.int .u8 (z : Int))) Tryz.underlying27 hsz hg (by rw [hcl]; exact hc) (fun j u hj => by
      have hjl : j < c := by rw [← hcl]; exact (List.getElem?_eq_some_iff.1 hj).1
      rw [List.getElem?_replicate, if_pos hjl] at hj
      cases hj
      rw [Addr.add_lit, hsrc j hjl]) (by rw [hcl]; simpa using (by omega : off + c ≤ cur.length)) (fun v hv => by rw [List.eq_of_mem_replicate hv]; rfl)
  rw [hcl] at hrun
  unfold Oper.wp execOp
  simp only [ho, resolve, invoke, builtin, Sem.run_bind, Sem.run_pure, Result.andThen_ok, List.map_toArray, List.map_cons, List.map_nil, hd, hs, hrun]
  exact h _ (fill_more hl h2 hfit (by simpa using setRow_heap w g _ _ _ _ hg)) (Keeps.setRow _ _ _)
theorem FillR.keeps {Z : Nat → Prop} {w w' : World} {g z k C : Nat} (h : FillR w g z k C) (hk : Keeps Z w w') (hn : ¬ Z g) : FillR w' g z k C := by
  obtain ⟨cur, h1, h2, h3⟩ := h
  exact ⟨cur, h1, (hk.block g (Array.getElem?_eq_some_iff.1 h2).1 hn).trans h2, h3⟩
theorem below_g {w W w' : World} {g : Nat} (h : Below w.heap.size w W) (hk : Keeps (fun j => j = g) W.drew w') (hg : w.heap.size ≤ g) : Below w.heap.size w w' :=
  ⟨hk.os.trans h.os, hk.tape.trans h.tape, hk.output.trans h.output, Nat.le_trans h.size hk.size, fun j hj => (hk.block j (Nat.lt_of_lt_of_le hj h.size) (fun e => by have e : j = g := e; omega)).trans (h.block j hj)⟩
theorem FillR.drew {w : World} {g z k C : Nat} (h : FillR w g z k C) : FillR w.drew g z k C := h
set_option maxRecDepth 100000 in
set_option maxHeartbeats 4000000 in
theorem repeat_any {w : World} {b z n : Nat} (hb : RowT w 5 b [z]) (hz : z < 256) (hn : 0 < n ∧ n ≤ 4096) :
    Calls Tryz.prog 90 #[.slice (some ⟨b, 0, none⟩) 1 1, .int .i64 (n : Int)] w fun e w' => ∃ g, e = .returned (.slice (some ⟨g, 0, none⟩) n n) ∧ w.heap.size ≤ g ∧ Below w.heap.size w w' ∧ Sl w' (.slice (some ⟨g, 0, none⟩) n n) (List.replicate n z) := by
  have HMul : Hid (∀ w : World, Calls Tryz.prog 101 #[.int .u64 1, .int .u64 (n : Int)] w fun e w' => e = .returned (.tuple #[.int .u64 0, .int .u64 (n : Int)]) ∧ w' = w) := bitsMul_one hn.2
  obtain ⟨cs, hrunM, hle, hmax⟩ := Lib.run_makeNoZero (P := Tryz.prog) w #[3] 27 5 Tryz.underlying27 n (by omega)
  have hcall : (callFunc 102 #[.int .i64 (n : Int)]).run Tryz.prog w = .ok (.value (.slice (some ⟨w.heap.size, 0, none⟩) n cs.size)) ((w.alloc (.cells cs 5)).drewN 2) := by
    rw [run_callFunc_extern Tryz.func102 (by kernel_rfl) (by kernel_rfl) (by kernel_rfl) (e := Extern.BytealgMakeNoZero.makeNoZero #[3] #[27]) (by kernel_rfl), hrunM]
    rfl
  clear hrunM
  have HB0 : Hid (Below w.heap.size w ((w.alloc (.cells cs 5)).drewN 2)) := by
    have h := (Below.refl w.heap.size w).alloc (Nat.le_refl _) (.cells cs 5)
    exact ⟨h.os, h.tape, h.output, h.size, h.block⟩
  have HG0 : Hid (FillR ((w.alloc (.cells cs 5)).drewN 2) w.heap.size z 0 cs.size) := by
    refine ⟨cs.toList, Array.length_toList, ?_, fun i hi => by omega⟩
    show (w.alloc (.cells cs 5)).heap[w.heap.size]? = _
    rw [Array.toArray_toList]
    exact heap_alloc_new w _
  have HMin : Hid (1 = Nat.min 1 n) := by have := hn.1; exact (Nat.min_eq_left (by omega)).symm
  have HSrc : Hid (∀ j, j < 1 → ((w.alloc (.cells cs 5)).drewN 2).cell? ⟨b, 0 + j, none⟩ = some (.int .u8 (z : Int))) := by
    intro j hj
    obtain rfl : j = 0 := by omega
    have h2 : RowT ((w.alloc (.cells cs 5)).drewN 2) 5 b [z] := (HB0.out.block b (Array.getElem?_eq_some_iff.1 hb).1).trans hb
    rw [cell_of_row _ b _ _ _ _ h2]
    rfl
  have HFit : Hid (0 + 1 ≤ cs.size) := (by omega : 0 + 1 ≤ cs.size)
  have HCap : Hid (cs.size ≤ maxLen) := hmax (by unfold maxLen; omega)
  clear hb hmax
  go_enter Tryz.func90, Tryz.ntmps90
  go_wp2_with (first | (go_at_call 101; refine (HMul.out _).mono ?_; rintro e w' ⟨rfl, hw⟩; have hw := hw.symm; subst hw) | (refine wpList_copy_z rfl (.tmp 58) (.tmp 59) rfl rfl rfl HG0.out 1 HMin.out HSrc.out HFit.out ?_; intro w1 hg1 hk1; have HG1 : Hid (FillR w1 w.heap.size z (0 + 1) cs.size) := hg1; have HK1 : Hid (Keeps (fun j => j = w.heap.size) ((w.alloc (.cells cs 5)).drewN 2) w1) := hk1; clear hg1 hk1 HG0 HSrc HMin HFit))
  obtain ⟨g, hg⟩ : ∃ g, g = w.heap.size := ⟨_, rfl⟩
  obtain ⟨C, hC⟩ : ∃ C, C = cs.size := ⟨_, rfl⟩
  have HB1 : Hid (Below w.heap.size w w1) := ⟨HK1.out.os.trans HB0.out.os, HK1.out.tape.trans HB0.out.tape, HK1.out.output.trans HB0.out.output, Nat.le_trans HB0.out.size HK1.out.size, fun j hj => (HK1.out.block j (Nat.lt_of_lt_of_le hj HB0.out.size) (fun e => by have e : j = w.heap.size := e; omega)).trans (HB0.out.block j hj)⟩
  have HGw : Hid (g = w.heap.size) := hg
  rw [← hg, ← hC] at HG1
  rw [← hg]
  rw [← hC] at hle HCap
  clear hcall HB0 HK1 HMul hg hC
  go_loopw [10] (fun y wr => ∃ k : Nat, 1 ≤ k ∧ k ≤ n ∧ y = .int .i64 (k : Int) ∧ Hid (FillR wr g z k C) ∧ Hid (Below w.heap.size w wr)) (fun y _ => match y with | .int _ x => n - x.toNat | _ => 0)
  case atStart => exact ⟨1, by omega, by omega, rfl, HG1.out, HB1.out⟩
  case round =>
    clear HG1 HB1
    obtain ⟨k, hk1, hkn, rfl, HG1, HB1⟩ := hrel
    by_cases hlt : k < n
    · obtain ⟨c, hc⟩ : ∃ c, c = Nat.min k (n - k) := ⟨_, rfl⟩
      have hc1 : 1 ≤ c := by rw [hc]; exact Nat.le_min.2 ⟨hk1, by omega⟩
      have hc2 : k + c ≤ n := by have : Nat.min k (n - k) ≤ n - k := Nat.min_le_right _ _; omega
      have hc3 : c ≤ k := by rw [hc]; exact Nat.min_le_left _ _
      have HC : Hid (c = Nat.min k (n - k)) := hc
      have HSrc : Hid (∀ j, j < c → wr.cell? ⟨g, 0 + j, none⟩ = some (.int .u8 (z : Int))) := fun j hj => by rw [Nat.zero_add]; exact HG1.out.at j (by omega)
      have HFit : Hid (k + c ≤ C) := (by omega : k + c ≤ C)
      have HWr : Hid (IntKind.i64.wrap ((k : Int) + (c : Int)) = ((k + c : Nat) : Int)) := by show _ = _; rw [IntKind.wrap_i64]; omega
      clear hc
      go_wp2_with fail
      go_region_law (refine step_copy_z rfl (.tmp 70) (.tmp 73) rfl (by first | (simp [Act.eval]; done) | (simp [Act.eval, Act.put]; try omega)) (by first | (simp [Act.eval]; done) | simp [Act.eval, Act.put]) (g := g) (off := k) (dl := n - k) (dc := n - k) (gs := g) (so := 0) (sl := k) (sc := n) (z := z) (C := C) HG1.out c HC.out HSrc.out HFit.out ?_; intro w3 h3 k3; have HG3 : Hid (FillR w3 g z (k + c) C) := h3; have HK3 : Hid (Keeps (fun j => j = g) wr.drew w3) := k3; clear h3 k3)
      go_wp2_with fail
      go_roundw
      case rel => exact ⟨k + c, by omega, by omega, by rw [HWr.out], HG3, below_g HB1.out HK3.out (Nat.le_of_eq HGw.out.symm)⟩
      case measure =>
        rw [HWr.out]
        show n - ((k + c : Nat) : Int).toNat < n - ((k : Nat) : Int).toNat
        rw [Int.toNat_natCast, Int.toNat_natCast]
        omega
    · obtain rfl : n = k := by omega
      go_wp2_with fail
      go_ret
      refine ⟨g, rfl, Nat.le_of_eq HGw.out.symm, HB1.out, ?_⟩
      have e : (List.replicate n z).length = n := List.length_replicate
      refine ⟨_, n, by rw [e], by rw [e]; exact Nat.le_refl _, by unfold maxLen; omega, fun y hy => by rw [List.eq_of_mem_replicate hy]; exact hz, fun h => (by cases h), fun i hi => ⟨g, 0, rfl, ?_⟩⟩
      rw [e] at hi
      rw [Nat.zero_add, HG1.out.at i hi, List.getD_eq_getElem?_getD, List.getElem?_replicate, if_pos hi]
      rfl
end Go.Proofs.YtddgoncbdlhhhaaGreat
