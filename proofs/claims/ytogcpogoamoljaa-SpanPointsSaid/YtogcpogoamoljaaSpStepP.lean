/- Steps over rows of sets and of points; a script of steps. Own work. -/
import Derived.Test.YtogcpogoamoljaaSpRows
import Derived.Test.YtogcpogoamoljaaSpTake
namespace Go.Proofs.Ytogcpogoamoljaa
open Go.RowKit Go.Shelf Go.Proofs.Ytogcpogoamoljaa.Sp Go.Proofs.Ytogcpogoamoljaa.U8
/-- points within a row -/
def PtsIn (w : World) (g off : Nat) (f : Nat → Bool) : Prop := ∀ j, j < 256 → w.cell? ⟨g, off + j, none⟩ = some (.bool (f j))
theorem PtsIn.load {w : World} {g off : Nat} {f : Nat → Bool} (h : PtsIn w g off f) : (Instr.loadAt 33 (.pointer (some ⟨g, off, none⟩))).run Try.prog w = .ok (.agg (ptsV f)) w := by
  have hu : Try.prog.underlying 33 = some (.array 256 4) := by kernel_rfl
  have := run_loadAt_mid (P := Try.prog) w g off 33 (ptsV f).toList (.array 256 4) (fun j v hv => by
    have hj : j < 256 := by have := (List.getElem?_eq_some_iff.1 hv).1; rw [Array.length_toList, ptsV_size] at this; exact this
    rw [h j hj]
    rw [Array.getElem?_toList, ptsV_get f hj] at hv
    exact hv) hu rfl (by rw [Array.length_toList, ptsV_size]; exact pts_zero.2)
  simpa using this
theorem loadIn_exec {o : Oper} {a : Act} {w : World} {x : Operand} (ho : o.op = .load 33 x) {g off : Nat} {f : Nat → Bool} (hx : a.eval x = .pointer (some ⟨g, off, none⟩)) (h : PtsIn w g off f) : (execOp a.eval o).run Try.prog w = .ok (.value (.agg (ptsV f))) w := by
  unfold execOp
  simp only [ho, hx, Sem.run_bind, Sem.run_pure, Result.andThen_ok, h.load]
theorem store_exec {o : Oper} {a : Act} {w : World} {x y : Operand} (ho : o.op = .store 33 x y) {b : Nat} {f g : Nat → Bool} (hx : a.eval x = .pointer (some ⟨b, 0, none⟩)) (hy : a.eval y = .agg (ptsV g)) (h : PtsAt w b f) : (execOp a.eval o).run Try.prog w = .ok .skip (w.setRow b (ptsV g)) := by
  unfold execOp
  simp only [ho, hx, hy, Sem.run_bind, Sem.run_pure, Result.andThen_ok, h.store g]
theorem wpList_loadIn {ops : Array Oper} {rest : List Oper} {o : Oper} {a : Act} {w : World} {Q : Exit → Act → World → Prop} (hgd : o.guard = none) (x : Operand) (ho : o.op = .load 33 x) {g off : Nat} {f : Nat → Bool} (hx : a.eval x = .pointer (some ⟨g, off, none⟩)) (h : PtsIn w g off f) (hk : wpList Try.prog ops Q rest (a.put o.dst (.agg (ptsV f))) w) : wpList Try.prog ops Q (o :: rest) a w :=
  wpList_plain hgd fun K hK => by
    unfold Oper.wp execOp
    simp only [ho, hx, Sem.run_bind, Sem.run_pure, Result.andThen_ok, h.load]
    exact hK _ _ hk
theorem row_cell {w : World} {b c i : Nat} (hc : b ≠ c) (d : Array Value) : (w.setRow c d).cell? ⟨b, i, none⟩ = w.cell? ⟨b, i, none⟩ := by
  have e : (w.setRow c d).heap[b]? = w.heap[b]? := by
    simp only [World.setRow, Array.getElem?_modify]
    rw [if_neg (fun h => hc h.symm)]
  unfold World.cell?
  simp only [e]
theorem fill_one {s : Nat} (hs : 0 < s) (c : Array Value) (hc : c.size = s) (cells : Array Value) (hl : cells.size = s) : Instr.fill (fun i => some (i * s, s)) cells [(0, .agg c)] = some c := by
  obtain ⟨r, h1, h2, h3⟩ := Great.fill_dense hs [.agg c] 0 cells (fun v hv => by obtain rfl := List.mem_singleton.1 hv; exact hc) (by simp; omega)
  have e : r = c := by
    apply Array.ext_getElem?
    intro k
    rw [h3 k]
    by_cases hk : k < s
    · rw [if_pos (by simp; omega), Nat.div_eq_of_lt hk, Nat.mod_eq_of_lt hk]
      rfl
    · rw [if_neg (by simp; omega), Array.getElem?_eq_none (by omega), Array.getElem?_eq_none (by omega)]
  rw [e] at h1
  exact h1
theorem run_buildI (f : Nat → Bool) (w : World) : (Instr.buildSlice 35 1 #[(0, .agg (ptsV f))]).run Try.prog w = .ok (.slice (some ⟨w.heap.size, 0, none⟩) 1 1) (w.alloc (.cells (ptsV f) 33)) := by
  obtain ⟨i, hi, hz0, hz1, hz2⟩ := info_parts info_pts
  refine run_buildSlice w 35 33 1 _ (ptsV f) i (.agg (ptsV fun _ => false)) Try.underlying35 hi hz0 (by rw [hz1]; omega) (by rw [hz1]; omega) ?_
  rw [hz1]
  exact fill_one (s := 256) (by omega) (ptsV f) (ptsV_size f) _ (by simp)
theorem run_buildS (v : Value) (w : World) : (Instr.buildSlice 31 1 #[(0, .agg #[v])]).run Try.prog w = .ok (.slice (some ⟨w.heap.size, 0, none⟩) 1 1) (w.alloc (.cells #[v] 25)) := by
  obtain ⟨i, hi, hz0, hz1, hz2⟩ := info_parts info_set
  refine run_buildSlice w 31 25 1 _ #[v] i (.agg #[.slice none 0 0]) Try.underlying31 hi hz0 (by rw [hz1]; omega) (by rw [hz1]; omega) ?_
  rw [hz1]
  exact fill_one (s := 1) (by omega) #[v] rfl _ (by simp)
theorem wpList_buildI {ops : Array Oper} {rest : List Oper} {o : Oper} {a : Act} {w : World} {Q : Exit → Act → World → Prop} (hgd : o.guard = none) (x : Operand) (ho : o.op = .buildSlice 35 1 #[(0, x)]) {f : Nat → Bool} (hx : a.eval x = .agg (ptsV f)) (hk : wpList Try.prog ops Q rest (a.put o.dst (.slice (some ⟨w.heap.size, 0, none⟩) 1 1)) (w.alloc (.cells (ptsV f) 33))) : wpList Try.prog ops Q (o :: rest) a w :=
  wpList_plain hgd fun K hK => by
    unfold Oper.wp execOp
    simp only [ho, List.map_toArray, List.map_cons, List.map_nil, hx, Sem.run_bind, Sem.run_pure, run_buildI, Result.andThen_ok]
    exact hK _ _ hk
theorem buildS_exec {o : Oper} {a : Act} {w : World} (x : Operand) (ho : o.op = .buildSlice 31 1 #[(0, x)]) {v : Value} (hx : a.eval x = .agg #[v]) : (execOp a.eval o).run Try.prog w = .ok (.value (.slice (some ⟨w.heap.size, 0, none⟩) 1 1)) (w.alloc (.cells #[v] 25)) := by
  unfold execOp
  simp only [ho, List.map_toArray, List.map_cons, List.map_nil, hx, Sem.run_bind, Sem.run_pure, run_buildS, Result.andThen_ok]
theorem wpList_buildS {ops : Array Oper} {rest : List Oper} {o : Oper} {a : Act} {w : World} {Q : Exit → Act → World → Prop} (hgd : o.guard = none) (x : Operand) (ho : o.op = .buildSlice 31 1 #[(0, x)]) {v : Value} (hx : a.eval x = .agg #[v]) (hk : wpList Try.prog ops Q rest (a.put o.dst (.slice (some ⟨w.heap.size, 0, none⟩) 1 1)) (w.alloc (.cells #[v] 25))) : wpList Try.prog ops Q (o :: rest) a w :=
  wpList_plain hgd fun K hK => by
    unfold Oper.wp
    rw [buildS_exec x ho hx]
    exact hK _ _ hk
theorem wpList_appS {ops : Array Oper} {rest : List Oper} {o : Oper} {a : Act} {w : World} {Q : Exit → Act → World → Prop} (hgd : o.guard = none) (s x : Operand)
    (ho : o.op = .call { callee := .builtin .append, args := #[s, x], argTypes := #[31, 31] })
    {base : Nat} {v : Value} {L : List Ent} {e : Ent} {g cap : Nat} (hs : a.eval s = v) (hx : a.eval x = .slice (some ⟨g, 0, none⟩) 1 cap) (hown : RowS w base v L) (h0 : w.cell? ⟨g, 0, none⟩ = some e.v) (h1 : e.v.oneCell' = true) (hl : L.length ≤ 100) (hbase : base ≤ w.heap.size)
    (h : ∀ v' w', RowS w' base v' (L ++ [e]) → w.grownBy w' v.ownBlock → wpList Try.prog ops Q rest (a.put o.dst v') w') : wpList Try.prog ops Q (o :: rest) a w :=
  wpList_plain hgd fun K hK => by
    obtain ⟨v', w', hr, h2, h3⟩ := run_appS o.type hown h0 h1 hl hbase (cap := cap)
    unfold Oper.wp execOp
    simp only [ho, resolve, invoke, builtin, Sem.run_bind, Sem.run_pure, Result.andThen_ok, List.map_toArray, List.map_cons, List.map_nil, hs, hx, hr]
    exact hK _ _ (h v' w' h2 h3)
theorem wpList_appI {ops : Array Oper} {rest : List Oper} {o : Oper} {a : Act} {w : World} {Q : Exit → Act → World → Prop} (hgd : o.guard = none) (s x : Operand)
    (ho : o.op = .call { callee := .builtin .append, args := #[s, x], argTypes := #[35, 35] })
    {base : Nat} {v : Value} {L : List Ent} {e : Ent} {g cap : Nat} (hs : a.eval s = v) (hx : a.eval x = .slice (some ⟨g, 0, none⟩) 1 cap) (hown : RowI w base v L) (h0 : PtsAt w g e.f) (hl : L.length ≤ 100) (hbase : base ≤ w.heap.size)
    (h : ∀ v' w', RowI w' base v' (L ++ [e]) → w.grownBy w' v.ownBlock → wpList Try.prog ops Q rest (a.put o.dst v') w') : wpList Try.prog ops Q (o :: rest) a w :=
  wpList_plain hgd fun K hK => by
    obtain ⟨v', w', hr, h2, h3⟩ := run_appI o.type hown h0 hl hbase (cap := cap)
    unfold Oper.wp execOp
    simp only [ho, resolve, invoke, builtin, Sem.run_bind, Sem.run_pure, Result.andThen_ok, List.map_toArray, List.map_cons, List.map_nil, hs, hx, hr]
    exact hK _ _ (h v' w' h2 h3)
theorem bookWithin_any {n : Int} {hi : Nat} (hh : hi ≤ 1048576) (w : World) :
    Calls Try.prog 9 #[.int .i64 n, .int .i64 0, .int .i64 (hi : Int)] w fun e w' => ∃ r : Nat, e = .returned (.int .i64 (r : Int)) ∧ r ≤ hi ∧ w = w' := by
  obtain ⟨q, hq⟩ : ∃ q, q = n.tmod ((hi : Int) + 1) := ⟨_, rfl⟩
  have hq1 : -((hi : Int) + 1) < q ∧ q < (hi : Int) + 1 := by
    have := Int.tmod_lt_of_pos n (b := (hi : Int) + 1) (by omega)
    have := Int.lt_tmod_of_pos n (b := (hi : Int) + 1) (by omega)
    omega
  have hne : (hi : Int) + 1 ≠ 0 := by omega
  go_enter Try.func9, Try.ntmps9
  go_wp2_with fail
  all_goals (go_ret; rw [← hq] at *)
  · exact ⟨(q + hi + 1).toNat, by rw [Int.toNat_of_nonneg (by omega)]; rfl, by omega, rfl⟩
  · exact ⟨q.toNat, by rw [Int.toNat_of_nonneg (by omega)]; rfl, by omega, rfl⟩
/-- a script's step -/
structure PStep where
  kind : Int
  a : Int
  b : Int
  x : Int
  y : Int
  l : Value
/-- a script that was handed in -/
def PScr (w : World) (v : Value) (os : List PStep) : Prop :=
  ∃ ao cap, v = .slice ao os.length cap ∧ os.length ≤ cap ∧ cap ≤ maxLen ∧ ∀ i (hi : i < os.length), ∃ b o, ao = some ⟨b, o, none⟩ ∧ (0 ≤ os[i].x ∧ os[i].x ≤ 18446744073709551615) ∧ (0 ≤ os[i].y ∧ os[i].y ≤ 18446744073709551615) ∧ (∃ x n c, os[i].l = .slice x n c) ∧
    w.cell? ⟨b, o + i * 6, none⟩ = some (.int .i64 os[i].kind) ∧ w.cell? ⟨b, o + i * 6 + 1, none⟩ = some (.int .i64 os[i].a) ∧ w.cell? ⟨b, o + i * 6 + 2, none⟩ = some (.int .i64 os[i].b) ∧ w.cell? ⟨b, o + i * 6 + 3, none⟩ = some (.int .u64 os[i].x) ∧ w.cell? ⟨b, o + i * 6 + 4, none⟩ = some (.int .u64 os[i].y) ∧ w.cell? ⟨b, o + i * 6 + 5, none⟩ = some os[i].l
end Go.Proofs.Ytogcpogoamoljaa
