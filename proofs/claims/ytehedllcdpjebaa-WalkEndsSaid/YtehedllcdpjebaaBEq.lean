/- Two pages held against one another; a page read whole; a page of zeros. Own work. -/
import Derived.Test.YtehedllcdpjebaaBOps
import Derived.Laws.StructEq
namespace Go.Proofs.Ytehedllcdpjebaa
open Go.RowKit Go.Maps
theorem part_byte (w : World) (L : List Nat) (i : Nat) (hi : i < L.length) : (part 5 (bvs L).toArray i).run Try.prog w = .ok (.int .u8 ((L.getD i 0 : Nat) : Int)) w := by
  have := bvs_get L i hi
  simp [part, isAgg, go_sem, this]
theorem beq_drop {L K : List Nat} {k : Nat} (hl : k < L.length) (hk : k < K.length) : (L.drop k == K.drop k) = ((((L.getD k 0 : Nat) : Int) == ((K.getD k 0 : Nat) : Int)) && (L.drop (k + 1) == K.drop (k + 1))) := by
  rw [List.drop_eq_getElem_cons hl, List.drop_eq_getElem_cons hk, List.cons_beq_cons]
  congr 1
  simp only [List.getD_eq_getElem?_getD, List.getElem?_eq_getElem hl, List.getElem?_eq_getElem hk, Option.getD_some]
  rw [Bool.eq_iff_iff]
  simp
  omega
theorem equal_loop (w : World) (d : Nat) (L K : List Nat) (N : Nat) (hl : L.length = N) (hk : K.length = N) : ∀ n k, k + n = N →
    (forIn (m := Sem) (List.range' k n) ((none : Option Bool), ()) fun i __s => do
            let __do_lift ← part 5 (bvs L).toArray i
            let __do_lift_1 ← part 5 (bvs K).toArray i
            let __do_lift ← Op.equalIn (d + 1) 5 __do_lift __do_lift_1
            if (!__do_lift) = true then pure (ForInStep.done (some false, ())) else pure (ForInStep.yield (none, ()))).run Try.prog w = .ok (if (L.drop k == K.drop k) = true then none else some false, ()) w := by
  intro n
  induction n with
  | zero =>
    intro k hkn
    rw [List.drop_eq_nil_of_le (by omega), List.drop_eq_nil_of_le (by omega)]
    simp
  | succ n ih =>
    intro k hkn
    rw [List.range'_succ, List.forIn_cons]
    simp only [Sem.run_bind, part_byte w L k (by omega), part_byte w K k (by omega), Result.andThen_ok, run_equalIn_int w d 5 .u8 .u8 _ _ Try.underlying5]
    rw [beq_drop (L := L) (K := K) (k := k) (by omega) (by omega)]
    cases e : (((L.getD k 0 : Nat) : Int) == ((K.getD k 0 : Nat) : Int)) with
    | false => simp
    | true =>
      have := ih (k + 1) (by omega)
      simp only [Bool.not_true, Bool.false_eq_true, if_false, Sem.run_pure, Result.andThen_ok, Bool.true_and]
      exact this
theorem equal_bytes (w : World) (d : Nat) (L K : List Nat) (hl : L.length = 4096) (hk : K.length = 4096) :
    (Op.equalIn (d + 1 + 1) 125 (.agg (bvs L).toArray) (.agg (bvs K).toArray)).run Try.prog w = .ok (L == K) w := by
  have hu : Try.prog.underlying 125 = some (.array 4096 5) := Try.underlying125
  obtain ⟨i, hi, _, hz1, _⟩ := info_parts info_byte
  have hs : (sizeOf 5).run Try.prog w = .ok 1 w := by simp only [sizeOf, typeInfo, Sem.run_bind, run_program, Result.andThen_ok, hi, Sem.run_pure, hz1]
  rw [Op.equalIn]
  simp only [Sem.run_bind, run_underlying hu, Result.andThen_ok, hs, Std.Legacy.Range.forIn_eq_forIn_range', Nat.mul_one]
  rw [show ([:4096] : Std.Legacy.Range).size = 4096 from rfl]
  rw [equal_loop w d L K 4096 hl hk 4096 0 (by omega)]
  simp only [List.drop_zero, Result.andThen_ok]
  cases e : (L == K) with
  | true => simp
  | false => simp
theorem zero_val (w : World) : (zeroValue 125).run Try.prog w = .ok (.agg (bvs zeros4).toArray) w := by
  have h := info_page
  cases hq : Try.prog.info? 125 with
  | none => rw [hq] at h; cases h
  | some i =>
    rw [hq] at h
    simp only [Option.map_some, Option.some.injEq, Prod.mk.injEq] at h
    simp only [zeroValue, typeInfo, Sem.run_bind, run_program, Result.andThen_ok, hq, h.1, Sem.run_pure]
theorem run_build_page (w : World) : (Instr.build 125 #[]).run Try.prog w = .ok (.agg (bvs zeros4).toArray) w := by
  have hu : Try.prog.underlying 125 = some (.array 4096 5) := Try.underlying125
  obtain ⟨i, hi, _, hz1, _⟩ := info_parts info_byte
  have hs : (sizeOf 5).run Try.prog w = .ok 1 w := by simp only [sizeOf, typeInfo, Sem.run_bind, run_program, Result.andThen_ok, hi, Sem.run_pure, hz1]
  have hz := zero_val w
  generalize bvs zeros4 = cs at hz ⊢
  simp only [Instr.build, Sem.run_bind, hz, Result.andThen_ok, run_underlying hu, hs, Value.cells, Instr.fill, Sem.run_pure]
theorem run_load_page (w : World) (g : Nat) (L : List Nat) (h : Pg w g L) (hl : L.length = 4096) : (Instr.loadAt 125 (.pointer (some ⟨g, 0, none⟩))).run Try.prog w = .ok (.agg (bvs L).toArray) w := by
  have hi := info_page
  refine run_loadAt_mid w g 0 125 (bvs L) (.array 4096 5) (fun j v hj => ?_) Try.underlying125 rfl ?_
  · rw [Nat.zero_add, cell_of_row w g j _ _ _ h]
    simpa using hj
  · rw [bvs_length, hl]
    cases hq : Try.prog.info? 125 with
    | none => rw [hq] at hi; cases hi
    | some i =>
      rw [hq] at hi
      simp only [Option.map_some, Option.some.injEq, Prod.mk.injEq] at hi
      rw [Option.map_some, hi.2]
theorem wpList_load_page {w : World} {ops : Array Oper} {rest : List Oper} {o : Oper} {a : Act} {Q : Exit → Act → World → Prop} (hw : Region.wanted o (yielded ops a.tmps) = true) (x : Operand) (ho : o.op = .load 125 x) {g : Nat} {L : List Nat} (hx : a.eval x = .pointer (some ⟨g, 0, none⟩)) (h : Pg w g L) (hl : L.length = 4096)
    (hK : wpList Try.prog ops Q rest (a.put o.dst (.agg (bvs L).toArray)) w) : wpList Try.prog ops Q (o :: rest) a w := by
  refine wpList_step fun K hK' => ?_
  rw [if_pos hw]
  unfold Oper.wp execOp
  simp only [ho, hx, Sem.run_bind, Sem.run_pure, Result.andThen_ok, run_load_page w g L h hl]
  exact hK' _ _ hK
theorem wpList_build_page {w : World} {ops : Array Oper} {rest : List Oper} {o : Oper} {a : Act} {Q : Exit → Act → World → Prop} (hw : Region.wanted o (yielded ops a.tmps) = true) (ho : o.op = .build 125 #[])
    (hK : wpList Try.prog ops Q rest (a.put o.dst (.agg (bvs zeros4).toArray)) w) : wpList Try.prog ops Q (o :: rest) a w := by
  refine wpList_step fun K hK' => ?_
  rw [if_pos hw]
  unfold Oper.wp execOp
  have e : (Array.map (fun (p : Nat × Operand) => (p.1, a.eval p.2)) #[]) = #[] := by simp
  simp only [ho, e, Sem.run_bind, Sem.run_pure, Result.andThen_ok, run_build_page]
  exact hK' _ _ hK
theorem guard_page : Try.prog.eqGuardType Try.prog.depth 125 = false := by kernel_rfl
theorem wpList_eql_page {w : World} {ops : Array Oper} {rest : List Oper} {o : Oper} {a : Act} {Q : Exit → Act → World → Prop} (hw : Region.wanted o (yielded ops a.tmps) = true) (x y : Operand) {t' : TypeId} (ho : o.op = .binOp .eql 125 x y t') {L K : List Nat} {b : Bool} (hx : a.eval x = .agg (bvs L).toArray) (hy : a.eval y = .agg (bvs K).toArray) (hl : L.length = 4096) (hk : K.length = 4096) (hb : (L == K) = b)
    (hK : wpList Try.prog ops Q rest (a.put o.dst (.bool b)) w) : wpList Try.prog ops Q (o :: rest) a w := by
  refine wpList_step fun K' hK' => ?_
  rw [if_pos hw]
  unfold Oper.wp execOp
  have e := equal_bytes w 9998 L K hl hk
  simp only [ho, hx, hy, Sem.run_bind, Sem.run_pure, Result.andThen_ok, run_eqGuard_agg w _ _ _ _ _ _ guard_page, run_eql_struct, e, hb]
  exact hK' _ _ hK
end Go.Proofs.Ytehedllcdpjebaa
