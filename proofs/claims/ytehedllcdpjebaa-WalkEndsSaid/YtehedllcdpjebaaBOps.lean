/- Laws at the operations of bus' pages: a new page, a copy into a row, a page put into the map and taken out of it. Own work. -/
import Derived.Test.YtehedllcdpjebaaBMem
import Derived.Deep.RegionHeld3
import Derived.Deep.MidRow
namespace Go.Proofs.Ytehedllcdpjebaa
open Go.RowKit Go.Maps
theorem slice_page (w : World) (g r : Nat) (hr : r < 4096) : (Instr.sliceAt 125 (.pointer (some ⟨g, 0, none⟩)) (some (.int .u64 (r : Int))) none none).run Try.prog w = .ok (.slice (some ⟨g, r, none⟩) (4096 - r) (4096 - r)) w := by
  obtain ⟨i, hi, _, hz1, _⟩ := info_parts info_byte
  have hs : (sizeOf 5).run Try.prog w = .ok 1 w := by simp only [sizeOf, typeInfo, Sem.run_bind, run_program, Result.andThen_ok, hi, Sem.run_pure, hz1]
  have hu : Try.prog.underlying 125 = some (.array 4096 5) := Try.underlying125
  have e : (⟨g, 0, none⟩ : Addr).add (r * 1) = ⟨g, r, none⟩ := by rw [Addr.add_mid]; simp
  have hb : ∀ code, (Instr.sliceBound (.int .u64 (r : Int)) 4096 code).run Try.prog w = .ok r w := fun code => by
    have h1 : (0 : Int) ≤ (r : Int) ∧ (r : Int) ≤ ((4096 : Nat) : Int) := by omega
    simp only [Instr.sliceBound, asIntOf, Sem.run_bind, Sem.run_pure, Result.andThen_ok, if_pos h1, Int.toNat_natCast]
  simp only [Instr.sliceAt, Instr.sureAddr, run_underlying hu, Sem.run_bind, Result.andThen_ok, Sem.run_pure, Instr.sliceBounds, hb, hs]
  rw [if_neg (by omega), e]
def zeros4 : List Nat := List.replicate 4096 0
theorem zeros4_page : zeros4 = pageOf (fun _ => 0) 0 := page_ext List.length_replicate fun i hi => by rw [zeros4, List.getElem?_replicate, if_pos hi]
theorem info_page : (Try.prog.info? 125).map (fun i => (i.zero, i.size)) = some (some (.agg (bvs zeros4).toArray), 4096) := by kernel_rfl
theorem run_new_page (w : World) : (Instr.alloc 125 true (.tuple #[])).run Try.prog w = .ok (.pointer (some ⟨w.heap.size, 0, none⟩)) (w.alloc (.cells (bvs zeros4).toArray 125)) := by
  have h := info_page
  cases hq : Try.prog.info? 125 with
  | none => rw [hq] at h; cases h
  | some i =>
    rw [hq] at h
    simp only [Option.map_some, Option.some.injEq, Prod.mk.injEq] at h
    have hz : (zeroValue 125).run Try.prog w = .ok (.agg (bvs zeros4).toArray) w := by
      simp only [zeroValue, typeInfo, Sem.run_bind, run_program, Result.andThen_ok, hq, h.1, Sem.run_pure]
    generalize bvs zeros4 = cs at hz ⊢
    simp only [Instr.alloc, Sem.run_bind, hz, Result.andThen_ok, Sem.run_pure, newVar, newRow, Value.cells]
    rfl
theorem wpList_new_page {w : World} {ops : Array Oper} {rest : List Oper} {o : Oper} {a : Act} {Q : Exit → Act → World → Prop} (hg : o.guard = none) (ho : o.op = .alloc 125)
    (h : ∀ w', w' = w.alloc (.cells (bvs zeros4).toArray 125) → wpList Try.prog ops Q rest (a.put o.dst (.pointer (some ⟨w.heap.size, 0, none⟩))) w') : wpList Try.prog ops Q (o :: rest) a w := by
  refine wpList_plain hg fun K hK => ?_
  unfold Oper.wp execOp
  simp only [ho, Sem.run_bind, Sem.run_pure, Result.andThen_ok, run_new_page]
  exact hK _ _ (h _ rfl)
theorem Keeps.setRow (w : World) (g : Nat) (cs : Array Value) : Keeps (fun j => j = g) w (w.setRow g cs) :=
  ⟨rfl, rfl, rfl, by simp [World.setRow], fun k _ hk => setRow_other w g k cs hk⟩
/-- bytes copied into the middle of a row -/
theorem wpList_copy_mid {w : World} {ops : Array Oper} {rest : List Oper} {o : Oper} {a : Act} {Q : Exit → Act → World → Prop} (hgd : o.guard = none) (d s : Operand)
    (ho : o.op = .call { callee := .builtin .copy, args := #[d, s], argTypes := #[61, 61] }) {g off dl dc : Nat} {v : Value} (hd : a.eval d = .slice (some ⟨g, off, none⟩) dl dc) (hs : a.eval s = v)
    {L zs : List Nat} {t : TypeId} (hg : w.heap[g]? = some (.cells (bvs L).toArray t (0, 0))) (n : Nat) (hn : n = min zs.length dl) (hz : Sl w v zs) (hfit : off + n ≤ L.length)
    (h : ∀ w', w'.heap[g]? = some (.cells (bvs (L.take off ++ zs.take n ++ L.drop (off + n))).toArray t (0, 0)) → Keeps (fun j => j = g) w w' → wpList Try.prog ops Q rest (a.put o.dst (goInt n)) w') : wpList Try.prog ops Q (o :: rest) a w := by
  obtain ⟨i, hi, hz0, hz1, hz2⟩ := info_parts info_byte
  have hsz : (Try.prog.info? 5).map (·.size) = some 1 := by rw [hi, Option.map_some, hz1]
  obtain ⟨ao, cap, rfl, h1, h2, h3, h4, h5⟩ := hz
  by_cases h0 : n = 0
  · subst h0
    refine wpList_copy_nothing hgd d s _ _ ho 5 Try.underlying61 hsz _ ao dl dc zs.length cap hd hs (by rw [Nat.min_def] at *; exact hn.symm) ?_
    exact h w (by simpa using hg) (Keeps.refl _ _)
  · have hlt : n ≤ zs.length := by omega
    obtain ⟨b, o', e, _⟩ := h5 0 (by omega)
    subst e
    have hcl : (bvs (zs.take n)).length = n := by rw [bvs_length, List.length_take]; omega
    refine wpList_copy_own hgd d s _ _ ho 5 Try.underlying61 hsz g off dl dc ⟨b, o', none⟩ zs.length cap hd hs _ t hg (bvs (zs.take n)) (by rw [hcl]; exact hn) ?_ (by rw [hcl]; simpa [bvs_length] using hfit) (bvs_one _) ?_
    · intro j u hj
      have hjl : j < n := by rw [← hcl]; exact (List.getElem?_eq_some_iff.1 hj).1
      obtain ⟨b', o'', e', hc⟩ := h5 j (by omega)
      cases e'
      rw [bvs_get _ j (by simp; omega)] at hj
      cases hj
      rw [Addr.add_lit, hc]
      simp only [List.getD_eq_getElem?_getD, List.getElem?_take_of_lt hjl]
    · rw [hcl]
      refine h _ ?_ (Keeps.setRow _ _ _)
      have e : ((bvs L).toArray.toList.take off ++ (bvs (zs.take n) ++ (bvs L).toArray.toList.drop (off + n))) = bvs (L.take off ++ zs.take n ++ L.drop (off + n)) := by
        rw [List.append_assoc, bvs_append, bvs_append]
        show (bvs L).take off ++ (bvs (zs.take n) ++ (bvs L).drop (off + n)) = _
        rw [bvs, ← List.map_take, ← List.map_drop]; rfl
      rw [e]
      exact setRow_heap w g _ _ t _ hg
theorem wpList_put_page {w : World} {ops : Array Oper} {rest : List Oper} {o : Oper} {a : Act} {Q : Exit → Act → World → Prop} (hgd : o.guard = none) (m x v : Operand) (ho : o.op = .mapUpdate 85 m x v)
    {B k g c : Nat} {T : Nat → Option Nat} (hm : a.eval m = .map (some B)) (hx : a.eval x = .int .u64 (k : Int)) (hv : a.eval v = .pointer (some ⟨g, 0, none⟩)) (hM : MapT w B T c) (hk : T k = none) (hb : k < 4503599627370496) (hc : c < maxLen)
    (h : ∀ w', MapT w' B (upd T k (some g)) (c + 1) → Keeps (fun j => j = B) w w' → wpList Try.prog ops Q rest (a.put o.dst undef) w') : wpList Try.prog ops Q (o :: rest) a w := by
  refine wpList_plain hgd fun K hK => ?_
  obtain ⟨w', hr, h2, h3⟩ := hM.put hk hb hc g
  unfold Oper.wp
  simp [execOp, ho, hm, hx, hv, hr, Result.andThen]
  exact hK _ _ (h w' h2 (Keeps.turned h3))
theorem wpList_del_page {w : World} {ops : Array Oper} {rest : List Oper} {o : Oper} {a : Act} {Q : Exit → Act → World → Prop} (hgd : o.guard = none) (m x : Operand) (ho : o.op = .call { callee := .builtin .delete, args := #[m, x], argTypes := #[85, 24] })
    {B k g c : Nat} {T : Nat → Option Nat} (hm : a.eval m = .map (some B)) (hx : a.eval x = .int .u64 (k : Int)) (hM : MapT w B T (c + 1)) (hk : T k = some g) (hb : k < 4503599627370496)
    (h : ∀ w', MapT w' B (upd T k none) c → Keeps (fun j => j = B) w w' → wpList Try.prog ops Q rest (a.put o.dst (.tuple #[])) w') : wpList Try.prog ops Q (o :: rest) a w := by
  refine wpList_plain hgd fun K hK => ?_
  obtain ⟨w', hr, h2, h3⟩ := hM.del hk hb o.type
  unfold Oper.wp
  simp [execOp, ho, resolve, invoke, builtin, hm, hx, hr, Result.andThen]
  exact hK _ _ (h w' h2 (Keeps.turned h3))
end Go.Proofs.Ytehedllcdpjebaa
