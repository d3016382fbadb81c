/- mark; whole arrays loaded, stored, returned. Own work. -/
import Derived.Test.YtogcpogoamoljaaSpPts
namespace Go.Proofs.Ytogcpogoamoljaa
open Go.RowKit Go.Shelf
def markF (f : Nat → Bool) (a b : Nat) (on : Bool) : Nat → Bool := fun q => if a ≤ q ∧ q ≤ b then on else f q
/-- up to k -/
def markN (f : Nat → Bool) (a k : Nat) (on : Bool) : Nat → Bool := fun q => if a ≤ q ∧ q < k then on else f q
theorem PtsAt.ext {w : World} {b : Nat} {f g : Nat → Bool} (h : PtsAt w b f) (e : ∀ i, i < 256 → f i = g i) : PtsAt w b g := by
  unfold PtsAt at h ⊢
  rw [← ptsV_ext e]; exact h
/-- a row is written over -/
theorem below_setRow (w : World) (b : Nat) (c : Array Value) (n : Nat) (h : n ≤ b) : Below n w (w.setRow b c) := by
  refine ⟨rfl, rfl, rfl, by simp [World.setRow], fun k hk => ?_⟩
  simp only [World.setRow, Array.getElem?_modify]
  rw [if_neg (by omega)]
/-- A whole array into a block of points. -/
theorem PtsAt.store {w : World} {b : Nat} {f : Nat → Bool} (h : PtsAt w b f) (g : Nat → Bool) : (Instr.storeAt 33 (.pointer (some ⟨b, 0, none⟩)) (.agg (ptsV g))).run Try.prog w = .ok () (w.setRow b (ptsV g)) := by
  simp only [Instr.storeAt, Instr.sureAddr, Sem.run_bind, Sem.run_pure, Result.andThen]
  exact run_storeVar_row w b 33 33 (ptsV f) (ptsV g) h (by rw [ptsV_size]; exact pts_zero.2) (by rw [ptsV_size, ptsV_size]) (ptsV_one g)
theorem PtsAt.setRow {w : World} {b : Nat} {f : Nat → Bool} (h : PtsAt w b f) (g : Nat → Bool) : PtsAt (w.setRow b (ptsV g)) b g := by
  unfold PtsAt at h ⊢
  simp [World.setRow, Array.getElem?_modify, h]
theorem PtsAt.row_other {w : World} {b c : Nat} {f : Nat → Bool} (h : PtsAt w b f) (hc : b ≠ c) (d : Array Value) : PtsAt (w.setRow c d) b f := by
  unfold PtsAt at h ⊢
  simp [World.setRow, Array.getElem?_modify, h, show ¬ c = b from fun e => hc e.symm]
theorem wp_load_pts {o : Oper} {a : Act} {w : World} {K : Act → World → Prop} {Q : Exit → Act → World → Prop} (x : Operand) (ho : o.op = .load 33 x) {b : Nat} {f : Nat → Bool} (hx : a.eval x = .pointer (some ⟨b, 0, none⟩)) (h : PtsAt w b f) (hk : K (a.put o.dst (.agg (ptsV f))) w) : o.wp Try.prog a w K Q := by
  unfold Oper.wp execOp
  simp only [ho, hx, Sem.run_bind, Sem.run_pure, Result.andThen_ok, h.load]
  exact hk
theorem wp_store_pts {o : Oper} {a : Act} {w : World} {K : Act → World → Prop} {Q : Exit → Act → World → Prop} (x y : Operand) (ho : o.op = .store 33 x y) {b : Nat} {f g : Nat → Bool} (hx : a.eval x = .pointer (some ⟨b, 0, none⟩)) (hy : a.eval y = .agg (ptsV g)) (hd : o.dst = none) (h : PtsAt w b f) (hk : K a (w.setRow b (ptsV g))) : o.wp Try.prog a w K Q := by
  unfold Oper.wp execOp
  simp only [ho, hx, hy, Sem.run_bind, Sem.run_pure, Result.andThen_ok, h.store g]
  rw [Oper.upon_skip, hd]
  exact hk
theorem wpList_load_pts {ops : Array Oper} {rest : List Oper} {o : Oper} {a : Act} {w : World} {Q : Exit → Act → World → Prop} (hgd : o.guard = none) (x : Operand) (ho : o.op = .load 33 x) {b : Nat} {f : Nat → Bool} (hx : a.eval x = .pointer (some ⟨b, 0, none⟩)) (h : PtsAt w b f) (hk : wpList Try.prog ops Q rest (a.put o.dst (.agg (ptsV f))) w) : wpList Try.prog ops Q (o :: rest) a w :=
  wpList_plain hgd fun _ hK => wp_load_pts x ho hx h (hK _ _ hk)
theorem wpList_store_pts {ops : Array Oper} {rest : List Oper} {o : Oper} {a : Act} {w : World} {Q : Exit → Act → World → Prop} (hgd : o.guard = none) (x y : Operand) (ho : o.op = .store 33 x y) {b : Nat} {f g : Nat → Bool} (hx : a.eval x = .pointer (some ⟨b, 0, none⟩)) (hy : a.eval y = .agg (ptsV g)) (hd : o.dst = none) (h : PtsAt w b f) (hk : wpList Try.prog ops Q rest a (w.setRow b (ptsV g))) : wpList Try.prog ops Q (o :: rest) a w :=
  wpList_plain hgd fun _ hK => wp_store_pts x y ho hx hy hd h (hK _ _ hk)
theorem results_cell_one {fn : Func} {p : Tmp} {ty : TypeId} (h : fn.results = #[.cell p ty]) (tmps : Array Value) (P : Program) (w : World) :
    (results fn tmps).run P w = ((asAddr (tmps.getD p undef)).run P w).andThen fun a w => (loadVar ty a).run P w := by
  simp only [results, h]
  simp [Sem.run_bind, Result.andThen]
theorem ret_pts {fn : Func} {p : Tmp} (h : fn.results = #[.cell p 33]) {tmps : Array Value} {w : World} {b : Nat} {g : Nat → Bool} (hp : tmps.getD p undef = .pointer (some ⟨b, 0, none⟩)) (hg : PtsAt w b g) :
    (results fn tmps).run Try.prog w = .ok (.agg (ptsV g)) w := by
  have hl := hg.load
  simp only [Instr.loadAt, Instr.sureAddr, Sem.run_bind, Sem.run_pure, Result.andThen] at hl
  rw [results_cell_one h, hp]
  simp [asAddr, Result.andThen, hl]
set_option maxHeartbeats 1000000 in
theorem mark_any {f : Nat → Bool} {x y : Int} {on : Bool} {a b : Nat} (ha : x % 256 = (a : Int)) (hb : y % 256 = (b : Int)) (w : World) :
    Calls Try.prog 7 #[.agg (ptsV f), .int .u64 x, .int .u64 y, .bool on] w fun e w' => e = .returned (.agg (ptsV (markF f a b on))) ∧ Below w.heap.size w w' := by
  have e1 : IntKind.u8.wrap x = (a : Int) := ha
  have e2 : IntKind.u8.wrap y = (b : Int) := hb
  have a1 : a ≤ 255 := by omega
  have b1 : b ≤ 255 := by omega
  have hz := pts_zero.1
  clear ha hb
  go_enter Try.func7, Try.ntmps7
  go_wp2_with fail
  obtain ⟨W0, hW0⟩ : ∃ W0, (w.alloc (Obj.cells (ptsV f) 33)).alloc (Obj.cells (ptsV fun _ => false) 33) = W0 := ⟨_, rfl⟩
  have HP0 : Hid (PtsAt W0 w.heap.size f) := hW0 ▸ (PtsAt.new w f).alloc _
  have HQ0 : Hid (PtsAt W0 (w.heap.size + 1) (fun _ => false)) := show PtsAt W0 (w.heap.size + 1) (fun _ => false) by
    have := PtsAt.new (w.alloc (Obj.cells (ptsV f) 33)) (fun _ => false)
    rw [hW0] at this
    simpa using this
  have HB0 : Hid (Below w.heap.size w W0) := hW0 ▸ ((Below.refl _ _).alloc (Nat.le_refl _) _).alloc (by simp) _
  rw [hW0]
  clear hW0
  go_loopw [9] (fun i wr => ∃ k : Nat, a ≤ k ∧ (k ≤ a ∨ k ≤ b + 1) ∧ i = .int .i64 (k : Int) ∧ Hid (PtsAt wr w.heap.size (markN f a k on)) ∧ Hid (PtsAt wr (w.heap.size + 1) (fun _ => false)) ∧ Hid (Below w.heap.size w wr)) (fun i _ => b + 1 - (intOf i).toNat)
  case atStart => exact ⟨a, Nat.le_refl _, .inl (Nat.le_refl _), rfl, HP0.out.ext (fun i _ => by simp only [markN]; rw [if_neg (by omega)]), HQ0.out, HB0.out⟩
  case round =>
    obtain ⟨k, hk, hk2, rfl, HP, HQ, HB⟩ := hrel
    by_cases hlt : k ≤ b
    · have hd : decide ((k : Int) ≤ (b : Int)) = true := decide_eq_true (by omega)
      have k256 : (k : Int) < 256 := by omega
      have hf := HP.out.free k
      have hc := HP.out.cell (p := k) (by omega)
      have HP' : Hid (PtsAt (wr.setCell ⟨w.heap.size, k, none⟩ (.bool on)) w.heap.size (markN f a (k + 1) on)) := (HP.out.set (by omega) on).ext (fun i _ => by
        simp only [setF, markN]
        by_cases e : i = k
        · rw [if_pos e, if_pos (by omega)]
        · rw [if_neg e]
          by_cases e2 : a ≤ i ∧ i < k
          · rw [if_pos e2, if_pos (by omega)]
          · rw [if_neg e2, if_neg (by omega)])
      have HQ' : Hid (PtsAt (wr.setCell ⟨w.heap.size, k, none⟩ (.bool on)) (w.heap.size + 1) (fun _ => false)) := HQ.out.other (by omega)
      have HB' : Hid (Below w.heap.size w (wr.setCell ⟨w.heap.size, k, none⟩ (.bool on))) := HB.out.setCell (p := ⟨w.heap.size, k, none⟩) (Nat.le_refl _) _
      clear hk2
      go_wp2_with fail
      go_roundw
      case rel => exact ⟨k + 1, by omega, .inr (by omega), by go_num, HP'.out, HQ'.out, HB'.out⟩
      case measure => simp [intOf]; omega
    · have hd : decide ((k : Int) ≤ (b : Int)) = false := decide_eq_false (by omega)
      have hm : markN f a k on = markF f a b on := by
        funext q
        simp only [markN, markF]
        by_cases e : a ≤ q ∧ q < k
        · rw [if_pos e, if_pos (by omega)]
        · rw [if_neg e, if_neg (by omega)]
      rw [hm] at HP
      clear hm
      go_wp2_with (first | (refine wpList_load_pts (b := w.heap.size) (f := markF f a b on) rfl (.tmp 4) rfl rfl HP.out ?_) | (refine wpList_store_pts (b := w.heap.size + 1) (g := markF f a b on) rfl (.tmp 8) (.tmp 23) rfl rfl rfl rfl HQ.out ?_))
      exact bodyPost_ret (v := .agg (ptsV (markF f a b on))) (ret_pts rfl (by rfl) (HQ.out.setRow (markF f a b on))) rfl ⟨rfl, HB.out.trans (below_setRow _ _ _ _ (by omega))⟩
end Go.Proofs.Ytogcpogoamoljaa
