/- Lanes: the queue's Push. Own work. -/
import Derived.Test.YtkhlkbgolonkkaaLnPP
import Derived.Deep.AppendSrc
import Derived.RegionTactic
namespace Go.Proofs.Ytkhlkbgolonkkaa
open Go.RowKit
set_option linter.unusedVariables false
/-- a job in a block of its own -/
def B4 (w : World) (g : Nat) (t : J4) : Prop := w.heap[g]? = some (.cells (enc4 t).toArray 86 (0, 0))
theorem B4.cells {w : World} {g : Nat} {t : J4} (h : B4 w g t) : w.cell? ⟨g, 0, none⟩ = some (.int .i64 t.n) ∧ w.cell? ⟨g, 1, none⟩ = some (.int .i64 t.r) ∧ w.cell? ⟨g, 2, none⟩ = some (.int .i64 t.d) ∧ w.cell? ⟨g, 3, none⟩ = some (.int .i64 t.l) := by
  refine ⟨?_, ?_, ?_, ?_⟩ <;> rw [cell_of_row w g _ _ _ _ h] <;> rfl
theorem run_append4 {w : World} {base : Nat} {v : Value} {xs : List J4} {t : J4} {g cap : Nat} (at1 ty : TypeId) (hu : Try.prog.underlying at1 = some (.slice 86)) (hown : OwnJ w base v xs) (hg : B4 w g t) (hb : xs.length ≤ 1048576) (hbase : base ≤ w.heap.size) :
    ∃ v' w', (Builtin.append_ #[at1, at1] ty #[v, .slice (some ⟨g, 0, none⟩) 1 cap]).run Try.prog w = .ok v' w' ∧ OwnJ w' base v' (xs ++ [t]) ∧ w.grownBy w' v.ownBlock ∧ (v'.ownBlock = v.ownBlock ∨ v'.ownBlock = some w.heap.size) := by
  obtain ⟨i, hi, hz0, hz1, hz2⟩ := info_parts info_job
  obtain ⟨h0, h1, h2, h3⟩ := hg.cells
  obtain ⟨v', w', r1, r2, r3, _, r5⟩ := run_append_own_at (P := Try.prog) w base at1 ty 86 i (.agg #[.int .i64 0, .int .i64 0, .int .i64 0, .int .i64 0]) 4 32 hu hi hz0 hz1 hz2 rfl (by omega) v xs.length (enc4s xs) hown ⟨g, 0, none⟩ 1 cap (enc4 t) rfl (fun j u hj => by
    rw [Addr.add_lit, Nat.zero_add]
    match j, hj with
    | 0, hj => rw [h0]; exact hj
    | 1, hj => rw [h1]; exact hj
    | 2, hj => rw [h2]; exact hj
    | 3, hj => rw [h3]; exact hj) (enc4_one t) (by unfold maxLen; omega) (by omega) hbase
  refine ⟨v', w', r1, ?_, r3, r5⟩
  unfold OwnJ
  rw [List.length_append, enc4s_append, show enc4s [t] = enc4 t from List.append_nil _]
  exact r2
theorem step_append4 {w : World} {ops : Array Oper} {o : Oper} {a : Act} {K : Act → World → Prop} {Q : Exit → Act → World → Prop} {E : Prop} (hw : Region.wanted o (yielded ops a.tmps) = true) (s x : Operand)
    (ho : o.op = .call { callee := .builtin .append, args := #[s, x], argTypes := #[83, 83] })
    {base : Nat} {v : Value} {ss : List J4} (t : J4) {g cap : Nat} (hs : a.eval s = v) (hown : OwnJ w base v ss) (hx : a.eval x = .slice (some ⟨g, 0, none⟩) 1 cap) (hg : B4 w g t) (hb : ss.length ≤ 1048576) (hbase : base ≤ w.heap.size)
    (h : ∀ v' w', OwnJ w' base v' (ss ++ [t]) → w.grownBy w' v.ownBlock → (v'.ownBlock = v.ownBlock ∨ v'.ownBlock = some w.heap.size) → K (a.put o.dst v') w') : if Region.wanted o (yielded ops a.tmps) = true then Oper.wp Try.prog o a w K Q else E := by
  rw [if_pos hw]
  obtain ⟨v', w', hr, h2, h3, h4⟩ := run_append4 83 o.type Try.underlying83 hown hg hb hbase (cap := cap)
  unfold Oper.wp execOp
  simp only [ho, resolve, invoke, builtin, Sem.run_bind, Sem.run_pure, Result.andThen_ok, List.map_toArray, List.map_cons, List.map_nil, hs, hx, hr]
  exact h v' w' h2 h3 h4
/-- the book-keeping behind an append -/
theorem Hq.app {w W1 w2 : World} {k base : Nat} {v v2 : Value} {xs zs : List J4} (h : Hq w k base v xs) (hb : base ≤ w.heap.size) (kW : Keeps (fun _ => False) w W1) (ho : OwnJ w2 base v2 zs) (hg : W1.grownBy w2 v.ownBlock) (hl : v2.ownBlock = v.ownBlock ∨ v2.ownBlock = some W1.heap.size) : Hq (w2.setCell ⟨k, 0, none⟩ v2) k base v2 zs ∧ (Kq k v w (w2.setCell ⟨k, 0, none⟩ v2) ∧ Fr w v v2) ∧ w2.cell? ⟨k, 0, none⟩ = some v ∧ w2.frozen? ⟨k, 0, none⟩ = false := by
  have hk1 : W1.heap[k]? = w.heap[k]? := kW.block k h.lt id
  have hkl : k < W1.heap.size := Nat.lt_of_lt_of_le h.lt kW.size
  have hk2 : w2.heap[k]? = some (.cells #[v] 83 (0, 0)) := (hg.block k hkl (fun e => h.ne e.symm)).trans (hk1.trans h.blk)
  have hne : v2.ownBlock ≠ some k := by
    rcases hl with e | e
    · rw [e]; exact h.ne
    · rw [e]; intro e2; cases e2; omega
  refine ⟨⟨?_, ho.keeps (Keeps.setCell w2 k 0 v2) (fun j hj e => hne (by subst e; exact hj)), h.ge, hne⟩, ?_, by rw [cell_of_row _ _ _ _ _ _ hk2]; rfl, by simp [World.frozen?, hk2]⟩
  · simp [World.setCell, Array.getElem?_modify, hk2]
  · refine ⟨((kW.mono (S' := fun b => b = k ∨ v.ownBlock = some b) fun _ _ e => e.elim).trans (Keeps.of_grown hg) fun _ _ e => .inr e).trans (Keeps.setCell w2 k 0 v2) fun _ _ e => .inl e, ?_⟩
    rcases hl with e | e
    · exact .inl e
    · exact .inr ⟨_, e, kW.size⟩
set_option maxRecDepth 100000 in
set_option maxHeartbeats 1000000 in
theorem qpush_any {w : World} {k base : Nat} {v : Value} {xs : List J4} {x : J4} (h : Hq w k base v xs) (hb : base ≤ w.heap.size) (hx : xs.length ≤ 1048576) :
    Calls Try.prog 85 #[.pointer (some ⟨k, 0, none⟩), JobV x] w fun e w' => e = .returned (.tuple #[]) ∧ ∃ v', Hq w' k base v' (xs ++ [x]) ∧ Kq k v w w' ∧ Fr w v v' := by
  obtain ⟨a, c, hv⟩ := h.own.form
  have x0 := h.cell
  have HH := Lib.hid h
  have hkl := h.lt
  have hkn : k ≠ w.heap.size := by omega
  have HX := Lib.hid hx
  have HB := Lib.hid hb
  have HB4 : Hid (B4 (w.alloc (.cells #[.int .i64 x.n, .int .i64 x.r, .int .i64 x.d, .int .i64 x.l] 86)).drew w.heap.size x) := Array.getElem?_push_size (xs := w.heap)
  have HO : Hid (OwnJ (w.alloc (.cells #[.int .i64 x.n, .int .i64 x.r, .int .i64 x.d, .int .i64 x.l] 86)).drew base v xs) := (h.own.below ((Below.refl _ _).alloc (Nat.le_refl _) _)).drew
  have HA : Hid (∀ v2 w2, OwnJ w2 base v2 (xs ++ [x]) → (w.alloc (.cells #[.int .i64 x.n, .int .i64 x.r, .int .i64 x.d, .int .i64 x.l] 86)).drew.grownBy w2 v.ownBlock → (v2.ownBlock = v.ownBlock ∨ v2.ownBlock = some (w.alloc (.cells #[.int .i64 x.n, .int .i64 x.r, .int .i64 x.d, .int .i64 x.l] 86)).drew.heap.size) → Hq (w2.setCell ⟨k, 0, none⟩ v2) k base v2 (xs ++ [x]) ∧ (Kq k v w (w2.setCell ⟨k, 0, none⟩ v2) ∧ Fr w v v2) ∧ w2.cell? ⟨k, 0, none⟩ = some v ∧ w2.frozen? ⟨k, 0, none⟩ = false) := fun v2 w2 h1 h2 h3 => h.app hb (Keeps.alloc (S := fun _ => False) w _).drew h1 h2 h3
  have hta : ∀ W : World, (Instr.typeAssert (.iface 86 (.agg #[.int .i64 x.n, .int .i64 x.r, .int .i64 x.d, .int .i64 x.l])) 20 86 false).run Try.prog W = .ok (.agg #[.int .i64 x.n, .int .i64 x.r, .int .i64 x.d, .int .i64 x.l]) W := fun W => by kernel_rfl
  clear h hv hx hb
  unfold JobV
  go_enter Try.func85, Try.ntmps85
  go_wp2_with fail
  go_region_law (refine step_append4 (base := base) (v := v) (ss := xs) (by kernel_rfl) (.tmp 7) (.tmp 10) (by rfl) x (by rfl) (by exact HO.out) (by rfl) (by exact HB4.out) HX.out (Nat.le_trans HB.out (by simp)) ?_; intro v2 w2 ho2 hg2 hl2; obtain ⟨va2, vc2, rfl⟩ := ho2.form; obtain ⟨hq2, hb2, hc2, hf2⟩ := HA.out _ w2 ho2 hg2 hl2; have HQ2 := Lib.hid hq2; have HB2 := Lib.hid hb2; clear hq2 hb2 ho2 hg2 hl2)
  all_goals
    go_wp2_with fail
    go_end0
    have h8 := HQ2.out
    have h9 := HB2.out
    rw [List.length_append, List.length_singleton] at h8 h9
    exact ⟨rfl, _, h8, h9.1, h9.2⟩
end Go.Proofs.Ytkhlkbgolonkkaa
