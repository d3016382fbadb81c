import Derived.Test.YtlplbbnicfeoaaaGreatPk06
import Derived.Test.YtlplbbnicfeoaaaGreatPk03
import Derived.Test.YtlplbbnicfeoaaaGreatPk09
import Derived.BigQuiet
import Derived.Test.YtlplbbnicfeoaaaGreatPk10
import Derived.Laws.Tables
import Derived.Great.BuildSlice
/- Rows of words that come in. Own work. -/
namespace Go.Proofs.YtlplbbnicfeoaaaGreat
open Go.RowKit Go.ChangeShapes Go.WideShapes
def UAt (w : World) (v : Value) (qs : List Nat) : Prop :=
  ∃ ao cap, v = .slice ao qs.length cap ∧ qs.length ≤ cap ∧ cap ≤ maxLen ∧ (∀ a ∈ qs, a ≤ 18446744073709551615) ∧ ∀ i (h : i < qs.length), ∃ b o, ao = some ⟨b, o, none⟩ ∧ w.cell? ⟨b, o + i, none⟩ = some (.int .u64 (qs[i] : Int))
theorem UAt.below {w w' : World} {v : Value} {qs : List Nat} (h : UAt w v qs) (hb : Below w.heap.size w w') : UAt w' v qs := by
  obtain ⟨ao, cap, rfl, h1, h2, h4, h3⟩ := h
  refine ⟨ao, cap, rfl, h1, h2, h4, fun i hi => ?_⟩
  obtain ⟨b, o, rfl, c0⟩ := h3 i hi
  have hl := World.block_lt_of_cell? w _ c0
  exact ⟨b, o, rfl, (hb.cell (p := ⟨b, o + i, none⟩) hl).trans c0⟩
section
variable {H : Type} {enc : TypeId × Value → H} {W : World} {base : Nat} {held : Bool}
theorem words_opened {fuel : Nat} {cs : List Value} {x : DataW H × List MemPlace} (h : DataW.trod enc Tryz.prog W base (fun _ => true) held fuel 24 cs = some x) : ∃ v qs, cs = [v] ∧ UAt W v qs := by
  rcases Go.Deep.open_slice Tryz.underlying24 h with ⟨rfl, _⟩ | ⟨a, len, cap, m, n, D, Pl, rfl, _, hl, hm, hmm, rfl, hx⟩
  · exact ⟨_, [], rfl, none, 0, rfl, Nat.le_refl _, Nat.zero_le _, fun _ h => (by cases h), fun i hi => by simp at hi⟩
  · have cS : Tryz.prog.cellsOf 23 = 1 := by kernel_rfl
    rw [cS] at hx
    have hmc : m = cap := by simpa using hmm
    obtain ⟨F, hF⟩ := Go.Deep.choose_lt (α := Nat) (n := len) (p := fun i y => y ≤ 18446744073709551615 ∧ W.cell? ((a.add (i * 1)).add 0) = some (.int .u64 (y : Int))) (fun i hi => by
      obtain ⟨cs', h1, h2⟩ := hx i (by omega)
      obtain ⟨y, rfl, _, wy⟩ := DataW.trod_int Tryz.underlying23 h2
      obtain ⟨yy, rfl, ya⟩ := u64_nat wy
      obtain ⟨_, _, hc⟩ := World.cells?_some h1
      refine ⟨yy, ya, ?_⟩
      rw [hc 0 (by decide)]
      rfl)
    refine ⟨_, (List.range len).map F, rfl, some a, cap, by simp, by simpa using hl, hm, fun y hy => ?_, fun i hi => ?_⟩
    · obtain ⟨i, hi, rfl⟩ := List.mem_map.1 hy
      exact (hF i (by simpa using hi)).1
    · have hi' : i < len := by simpa using hi
      obtain ⟨_, hc⟩ := hF i hi'
      have hget : ((List.range len).map F)[i] = F i := by simp
      rw [hget]
      obtain ⟨b, o, sp⟩ := a
      cases sp with
      | some q => exact absurd (World.cell?_spot ((hF 0 (by omega)).2)) (by simp [Addr.add])
      | none =>
        simp only [Go.WideShapes.add_plain, Nat.mul_one, Nat.add_zero] at hc
        exact ⟨b, o, rfl, hc⟩
end
end Go.Proofs.YtlplbbnicfeoaaaGreat
/- Pages: lists of tables that are the same; few. Own work. -/
namespace Go.Proofs.YtlplbbnicfeoaaaGreat
open Go.RowKit Wk
set_option linter.unusedVariables false
/-- a table of a list, by value -/
theorem GAt.load {w : World} {G n : Nat} {M : Nat → Nat} (h : GAt w G n M) {k : Nat} (hk : k < n) : (Instr.loadAt 55 (.pointer (some ⟨G, k * 512, none⟩))).run Tryz.prog w = .ok (.agg (tabV fun i => M (k * 512 + i))) w := by
  have hu : Tryz.prog.underlying 55 = some (.array 512 23) := by kernel_rfl
  have := run_loadAt_mid (P := Tryz.prog) w G (k * 512) 55 (tabV fun i => M (k * 512 + i)).toList (.array 512 23) (fun j v hv => by
    have hj : j < 512 := by have := (List.getElem?_eq_some_iff.1 hv).1; rw [Array.length_toList, tabV_size] at this; exact this
    rw [h.cell (by omega)]
    rw [Array.getElem?_toList, tabV_get _ hj] at hv
    exact hv) hu rfl (by rw [Array.length_toList, tabV_size]; exact tab_zero.2)
  simpa using this
theorem quiet_load_tab {o : Oper} {a : Act} {C : World → Prop} {K : Act → Prop} (x : Operand) (ho : o.op = .load 55 x) {p V : Value} (hx : a.eval x = p) (hl : ∀ w, C w → (Instr.loadAt 55 p).run Tryz.prog w = .ok V w) (hk : ∀ a', a.put o.dst V = a' → K a') : o.quiet Tryz.prog a C K :=
  ⟨V, fun w hw => by
    unfold Oper.quietAt execOp
    simp only [ho, hx, Sem.run_bind, Sem.run_pure, Result.andThen_ok, hl w hw]
    exact ⟨rfl, rfl⟩, hk _ rfl⟩
theorem quiet_neq_tab {o : Oper} {a : Act} {C : World → Prop} {K : Act → Prop} (x y : Operand) {t' : TypeId} (ho : o.op = .binOp .neq 55 x y t') {V : Value} {f : Nat → Nat} (hV : V = .agg (tabV f)) (hx : a.eval x = V) (hy : a.eval y = V) (hk : ∀ a', a.put o.dst (.bool false) = a' → K a') : o.quiet Tryz.prog a C K :=
  ⟨_, fun w hw => by
    subst hV
    have hg : (eqGuard .neq 55 x y (.agg (tabV f)) (.agg (tabV f))).run Tryz.prog w = .ok () w := run_eqGuard_agg w _ _ _ _ _ _ tab_guard
    unfold Oper.quietAt execOp
    simp only [ho, hx, hy, Sem.run_bind, Sem.run_pure, Result.andThen_ok, hg, tab_neq]
    exact ⟨rfl, rfl⟩, hk _ rfl⟩
end Go.Proofs.YtlplbbnicfeoaaaGreat
/- Pages: the document's tables in memory. Own work. -/
namespace Go.Proofs.YtlplbbnicfeoaaaGreat
open Go.RowKit Wk
set_option linter.unusedVariables false
set_option maxRecDepth 20000
/-- where a table begins -/
def vq (y : Nat × Nat) : Nat := if y.1 = 1 then y.2 * 1073741824 else if y.1 = 2 then y.2 * 2097152 else 0
/-- a new one -/
def qrow (lv v : Int) : Array Value := #[.int .i64 lv, .int .u64 v] ++ Array.replicate 512 (.int .u64 0)
set_option maxRecDepth 100000 in
theorem q_build (lv v : Int) (W : World) : (Instr.build 69 #[(0, .int .i64 lv), (1, .int .u64 v)]).run Tryz.prog W = .ok (.agg (qrow lv v)) W := run_build W _ _ _ (by kernel_rfl)
set_option maxRecDepth 100000 in
theorem q_build0 (lv : Int) (W : World) : (Instr.build 69 #[(0, .int .i64 lv)]).run Tryz.prog W = .ok (.agg (qrow lv 0)) W := run_build W _ _ _ (by kernel_rfl)
theorem info_q : (Tryz.prog.info? 69).map (fun i => (i.zero, i.size, i.bytes)) = some (some (.agg (qrow 0 0)), 514, 4112) := by kernel_rfl
theorem qrow_size (lv v : Int) : (qrow lv v).size = 514 := by simp [qrow]
theorem qrow_get (lv v : Int) {r : Nat} (hr : r < 514) : (qrow lv v)[r]? = some (if r = 0 then .int .i64 lv else if r = 1 then .int .u64 v else .int .u64 0) := by
  unfold qrow
  by_cases h0 : r = 0
  · subst h0; simp
  · by_cases h1 : r = 1
    · subst h1; simp
    · rw [if_neg h0, if_neg h1, Array.getElem?_append_right (show (#[Value.int .i64 lv, .int .u64 v] : Array Value).size ≤ r by show 2 ≤ r; omega), Array.getElem?_replicate, if_pos (show r - (#[Value.int .i64 lv, .int .u64 v] : Array Value).size < 512 by show r - 2 < 512; omega)]
theorem fill_one {Q Z : Array Value} {n : Nat} (hn : 0 < n) (hQ : Q.size = n) (hZ : Z.size = n) : Instr.fill (fun i => some (i * n, n)) Z [(0, .agg Q)] = some Q := by
  have h := Go.Great.fill_whole hn [.agg Q] Z (fun u hu => by rw [List.mem_singleton.1 hu]; exact hQ) (by simp [hZ])
  have e : ([Value.agg Q].flatMap fun u => u.cells.toList).toArray = Q := by
    show (Q.toList ++ []).toArray = _
    simp
  rw [e] at h
  exact h
theorem q_slice (lv v : Int) (W : World) : (Instr.buildSlice 66 1 #[(0, .agg (qrow lv v))]).run Tryz.prog W = .ok (.slice (some ⟨W.heap.size, 0, none⟩) 1 1) (W.alloc (.cells (qrow lv v) 69)) := by
  obtain ⟨i, hi, hz0, hz1, hz2⟩ := info_parts info_q
  refine run_buildSlice W _ 69 1 _ _ i _ Tryz.underlying66 hi hz0 (by rw [hz1]; decide) (by rw [hz1]; decide) ?_
  rw [hz1]
  exact fill_one (by decide) (qrow_size lv v) (by simp)
/-- a cell of the document's tables -/
def cq (ts : List (Nat × Nat)) (E : Nat → Nat) (i r : Nat) : Value := if r = 0 then .int .i64 ((ts.getD i (0, 0)).1 : Int) else if r = 1 then .int .u64 (vq (ts.getD i (0, 0)) : Int) else .int .u64 (E (i * 512 + (r - 2)) : Int)
def cellsQ (ts : List (Nat × Nat)) (E : Nat → Nat) : List Value := (List.range (ts.length * 514)).map fun q => cq ts E (q / 514) (q % 514)
theorem cellsQ_length (ts : List (Nat × Nat)) (E : Nat → Nat) : (cellsQ ts E).length = ts.length * 514 := by simp [cellsQ]
theorem cellsQ_get (ts : List (Nat × Nat)) (E : Nat → Nat) {i r : Nat} (hi : i < ts.length) (hr : r < 514) : (cellsQ ts E)[i * 514 + r]? = some (cq ts E i r) := by
  have h1 : i * 514 + r < ts.length * 514 := by omega
  have h2 : (i * 514 + r) / 514 = i := by omega
  have h3 : (i * 514 + r) % 514 = r := by omega
  simp only [cellsQ, List.getElem?_map, List.getElem?_range h1, Option.map_some, h2, h3]
theorem cellsQ_snoc (ts : List (Nat × Nat)) (y : Nat × Nat) : cellsQ (ts ++ [y]) (fun _ => 0) = cellsQ ts (fun _ => 0) ++ (qrow (y.1 : Int) (vq y : Int)).toList := by
  have hq : ∀ r, (qrow (y.1 : Int) (vq y : Int)).toList[r]? = (qrow (y.1 : Int) (vq y : Int))[r]? := fun r => Array.getElem?_toList
  apply List.ext_getElem?
  intro q
  by_cases h1 : q < ts.length * 514
  · rw [List.getElem?_append_left (by rw [cellsQ_length]; exact h1)]
    have e : q = q / 514 * 514 + q % 514 := by omega
    have hlt : q / 514 < ts.length := by omega
    rw [e, cellsQ_get _ _ (by simp; omega) (Nat.mod_lt _ (by decide)), cellsQ_get _ _ hlt (Nat.mod_lt _ (by decide))]
    unfold cq
    have hd : (ts ++ [y]).getD (q / 514) (0, 0) = ts.getD (q / 514) (0, 0) := by simp only [List.getD, List.getElem?_append_left hlt]
    rw [hd]
  · rw [List.getElem?_append_right (by rw [cellsQ_length]; omega), cellsQ_length, hq]
    by_cases h2 : q < (ts.length + 1) * 514
    · have e : q = ts.length * 514 + (q - ts.length * 514) := by omega
      have hr : q - ts.length * 514 < 514 := by omega
      rw [qrow_get _ _ hr]
      generalize q - ts.length * 514 = r at *
      subst e
      rw [cellsQ_get _ _ (by simp) hr]
      unfold cq
      simp
    · rw [List.getElem?_eq_none (by rw [cellsQ_length]; simp; omega), Array.getElem?_eq_none (by rw [qrow_size]; omega)]
theorem cellsQ_set (ts : List (Nat × Nat)) (E : Nat → Nat) {i j : Nat} (hi : i < ts.length) (hj : j < 512) (x : Nat) : (cellsQ ts E).set (i * 514 + (j + 2)) (.int .u64 (x : Int)) = cellsQ ts (putM E (i * 512 + j) x) := by
  apply List.ext_getElem?
  intro q
  rw [List.getElem?_set]
  by_cases h1 : q < ts.length * 514
  · have e : q = q / 514 * 514 + q % 514 := by omega
    have hlt : q / 514 < ts.length := by omega
    have hm := Nat.mod_lt q (show 514 > 0 by decide)
    by_cases h2 : i * 514 + (j + 2) = q
    · rw [if_pos h2, if_pos (by rw [cellsQ_length]; omega), ← h2, cellsQ_get _ _ hi (by omega)]
      unfold cq
      rw [if_neg (by omega), if_neg (by omega), show j + 2 - 2 = j by omega, putM_at]
    · rw [if_neg h2, e, cellsQ_get _ _ hlt hm, cellsQ_get _ _ hlt hm]
      unfold cq
      by_cases r0 : q % 514 = 0
      · rw [if_pos r0, if_pos r0]
      · by_cases r1 : q % 514 = 1
        · rw [if_neg r0, if_neg r0, if_pos r1, if_pos r1]
        · rw [if_neg r0, if_neg r0, if_neg r1, if_neg r1, putM_ne _ (by omega)]
  · rw [if_neg (by omega), List.getElem?_eq_none (by rw [cellsQ_length]; omega), List.getElem?_eq_none (by rw [cellsQ_length]; omega)]
def OwnQ (w : World) (base : Nat) (v : Value) (ts : List (Nat × Nat)) (E : Nat → Nat) : Prop := w.ownsRow base 69 514 v ts.length (cellsQ ts E)
theorem OwnQ.lt {w : World} {base : Nat} {v : Value} {ts : List (Nat × Nat)} {E : Nat → Nat} (h : OwnQ w base v ts E) : ∀ k, v.ownBlock = some k → base ≤ k ∧ k < w.heap.size := World.ownsRow.lt h
theorem OwnQ.keeps {S : Nat → Prop} {w w' : World} {base : Nat} {v : Value} {ts : List (Nat × Nat)} {E : Nat → Nat} (h : OwnQ w base v ts E) (hk : Keeps S w w') (hn : ∀ k, v.ownBlock = some k → ¬ S k) : OwnQ w' base v ts E := by
  refine ⟨h.1, ?_⟩
  rcases h.2 with hv | ⟨g, cap, cur, rfl, hb, hgg, rest⟩
  · exact .inl hv
  · refine .inr ⟨g, cap, cur, rfl, hb, ?_, rest⟩
    rw [hk.block g (Array.getElem?_eq_some_iff.1 hgg).1 (hn g rfl)]
    exact hgg
theorem OwnQ.below {w w' : World} {base : Nat} {v : Value} {ts : List (Nat × Nat)} {E : Nat → Nat} (h : OwnQ w base v ts E) (hb : Below w.heap.size w w') : OwnQ w' base v ts E := h.keeps (Keeps.of_below (S := fun _ => False) hb) (fun _ _ e => e)
/-- a list that is not empty -/
theorem OwnQ.form {w : World} {base : Nat} {v : Value} {ts : List (Nat × Nat)} {E : Nat → Nat} (h : OwnQ w base v ts E) (hp : 0 < ts.length) : ∃ g cap, v = .slice (some ⟨g, 0, none⟩) ts.length cap ∧ ts.length ≤ cap := by
  rcases h.2 with ⟨rfl, h0⟩ | ⟨g, cap, cur, rfl, hb, hg, h1, h2, hs, ht⟩
  · omega
  · exact ⟨g, cap, rfl, h1⟩
theorem OwnQ.cell {w : World} {base g cap : Nat} {ts : List (Nat × Nat)} {E : Nat → Nat} (h : OwnQ w base (.slice (some ⟨g, 0, none⟩) ts.length cap) ts E) {i r : Nat} (hi : i < ts.length) (hr : r < 514) : w.cell? ⟨g, i * 514 + r, none⟩ = some (cq ts E i r) := by
  rw [World.ownsRow.cellAt h (i * 514 + r) (by omega)]
  exact cellsQ_get ts E hi hr
theorem OwnQ.free {w : World} {base g n cap : Nat} {ts : List (Nat × Nat)} {E : Nat → Nat} (h : OwnQ w base (.slice (some ⟨g, 0, none⟩) n cap) ts E) (i : Nat) : w.frozen? ⟨g, i, none⟩ = false := by
  rcases h.2 with ⟨hv, h0⟩ | ⟨g', cap', cur, hv, hb, hg, h1, h2, hs, ht⟩
  · cases hv
  · cases hv
    simp [World.frozen?, hg]
theorem OwnQ.set {w : World} {base g cap : Nat} {ts : List (Nat × Nat)} {E : Nat → Nat} (h : OwnQ w base (.slice (some ⟨g, 0, none⟩) ts.length cap) ts E) {i j : Nat} (hi : i < ts.length) (hj : j < 512) (x : Nat) : OwnQ (w.setCell ⟨g, i * 514 + (j + 2), none⟩ (.int .u64 (x : Int))) base (.slice (some ⟨g, 0, none⟩) ts.length cap) ts (putM E (i * 512 + j) x) := by
  have h3 := (World.ownsRow.stored h (i * 514 + (j + 2)) (.int .u64 (x : Int))).1
  rw [cellsQ_set ts E hi hj] at h3
  exact h3
theorem OwnQ.one (w : World) : OwnQ (w.alloc (.cells (qrow 0 0) 69)) w.heap.size (.slice (some ⟨w.heap.size, 0, none⟩) 1 1) [(0, 0)] (fun _ => 0) := by
  have e : cellsQ [(0, 0)] (fun _ => 0) = (qrow 0 0).toList := by
    have h := cellsQ_snoc [] (0, 0)
    have e0 : cellsQ [] (fun _ => 0) = [] := by simp [cellsQ]
    have e1 : ((vq (0, 0) : Nat) : Int) = 0 := rfl
    have e2 : (((0, 0) : Nat × Nat).1 : Int) = 0 := rfl
    rw [e0, List.nil_append, List.nil_append, e1, e2] at h
    exact h
  unfold OwnQ
  rw [e]
  refine ⟨by rw [Array.length_toList, qrow_size]; rfl, .inr ⟨w.heap.size, 1, qrow 0 0, rfl, Nat.le_refl _, heap_alloc_new w _, Nat.le_refl _, by unfold maxLen; decide, by rw [qrow_size], ?_⟩⟩
  rw [List.take_of_length_le (by simp [qrow_size])]
end Go.Proofs.YtlplbbnicfeoaaaGreat
