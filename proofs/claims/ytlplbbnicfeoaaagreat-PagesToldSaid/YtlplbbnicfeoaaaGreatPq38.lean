import Derived.Test.YtlplbbnicfeoaaaGreatPq09
import Derived.Test.YtlplbbnicfeoaaaGreatPq31
import Derived.Laws.Tables
import Derived.Great.BuildSlice
import Derived.Test.YtlplbbnicfeoaaaGreatPq05
/- Pages: the document's tables in memory. Own work. -/
namespace Go.Proofs.YtlplbbnicfeoaaaGreat
open Go.RowKit Wk
set_option linter.unusedVariables false
set_option maxRecDepth 20000
/-- where a table begins -/
def vq (y : Nat × Nat) : Nat := if y.1 = 1 then y.2 * 1073741824 else if y.1 = 2 then y.2 * 2097152 else 0
/-- a new one -/
def qrow (lv v : Int) : Array Value := #[.int .i64 lv, .int .u64 v] ++ Array.replicate 512 (.int .u64 0)
set_option maxRecDepth 100000 in
theorem q_build (lv v : Int) (W : World) : (Instr.build 69 #[(0, .int .i64 lv), (1, .int .u64 v)]).run Tryz.prog W = .ok (.agg (qrow lv v)) W := run_build W _ _ _ (by kernel_rfl)
set_option maxRecDepth 100000 in
theorem q_build0 (lv : Int) (W : World) : (Instr.build 69 #[(0, .int .i64 lv)]).run Tryz.prog W = .ok (.agg (qrow lv 0)) W := run_build W _ _ _ (by kernel_rfl)
theorem info_q : (Tryz.prog.info? 69).map (fun i => (i.zero, i.size, i.bytes)) = some (some (.agg (qrow 0 0)), 514, 4112) := by kernel_rfl
theorem qrow_size (lv v : Int) : (qrow lv v).size = 514 := by simp [qrow]
theorem qrow_get (lv v : Int) {r : Nat} (hr : r < 514) : (qrow lv v)[r]? = some (if r = 0 then .int .i64 lv else if r = 1 then .int .u64 v else .int .u64 0) := by
  unfold qrow
  by_cases h0 : r = 0
  · subst h0; simp
  · by_cases h1 : r = 1
    · subst h1; simp
    · rw [if_neg h0, if_neg h1, Array.getElem?_append_right (show (#[Value.int .i64 lv, .int .u64 v] : Array Value).size ≤ r by show 2 ≤ r; omega), Array.getElem?_replicate, if_pos (show r - (#[Value.int .i64 lv, .int .u64 v] : Array Value).size < 512 by show r - 2 < 512; omega)]
theorem fill_one {Q Z : Array Value} {n : Nat} (hn : 0 < n) (hQ : Q.size = n) (hZ : Z.size = n) : Instr.fill (fun i => some (i * n, n)) Z [(0, .agg Q)] = some Q := by
  have h := Go.Great.fill_whole hn [.agg Q] Z (fun u hu => by rw [List.mem_singleton.1 hu]; exact hQ) (by simp [hZ])
  have e : ([Value.agg Q].flatMap fun u => u.cells.toList).toArray = Q := by
    show (Q.toList ++ []).toArray = _
    simp
  rw [e] at h
  exact h
theorem q_slice (lv v : Int) (W : World) : (Instr.buildSlice 66 1 #[(0, .agg (qrow lv v))]).run Tryz.prog W = .ok (.slice (some ⟨W.heap.size, 0, none⟩) 1 1) (W.alloc (.cells (qrow lv v) 69)) := by
  obtain ⟨i, hi, hz0, hz1, hz2⟩ := info_parts info_q
  refine run_buildSlice W _ 69 1 _ _ i _ Tryz.underlying66 hi hz0 (by rw [hz1]; decide) (by rw [hz1]; decide) ?_
  rw [hz1]
  exact fill_one (by decide) (qrow_size lv v) (by simp)
/-- a cell of the document's tables -/
def cq (ts : List (Nat × Nat)) (E : Nat → Nat) (i r : Nat) : Value := if r = 0 then .int .i64 ((ts.getD i (0, 0)).1 : Int) else if r = 1 then .int .u64 (vq (ts.getD i (0, 0)) : Int) else .int .u64 (E (i * 512 + (r - 2)) : Int)
def cellsQ (ts : List (Nat × Nat)) (E : Nat → Nat) : List Value := (List.range (ts.length * 514)).map fun q => cq ts E (q / 514) (q % 514)
theorem cellsQ_length (ts : List (Nat × Nat)) (E : Nat → Nat) : (cellsQ ts E).length = ts.length * 514 := by simp [cellsQ]
theorem cellsQ_get (ts : List (Nat × Nat)) (E : Nat → Nat) {i r : Nat} (hi : i < ts.length) (hr : r < 514) : (cellsQ ts E)[i * 514 + r]? = some (cq ts E i r) := by
  have h1 : i * 514 + r < ts.length * 514 := by omega
  have h2 : (i * 514 + r) / 514 = i := by omega
  have h3 : (i * 514 + r) % 514 = r := by omega
  simp only [cellsQ, List.getElem?_map, List.getElem?_range h1, Option.map_some, h2, h3]
theorem cellsQ_snoc (ts : List (Nat × Nat)) (y : Nat × Nat) : cellsQ (ts ++ [y]) (fun _ => 0) = cellsQ ts (fun _ => 0) ++ (qrow (y.1 : Int) (vq y : Int)).toList := by
  have hq : ∀ r, (qrow (y.1 : Int) (vq y : Int)).toList[r]? = (qrow (y.1 : Int) (vq y : Int))[r]? := fun r => Array.getElem?_toList
  apply List.ext_getElem?
  intro q
  by_cases h1 : q < ts.length * 514
  · rw [List.getElem?_append_left (by rw [cellsQ_length]; exact h1)]
    have e : q = q / 514 * 514 + q % 514 := by omega
    have hlt : q / 514 < ts.length := by omega
    rw [e, cellsQ_get _ _ (by simp; omega) (Nat.mod_lt _ (by decide)), cellsQ_get _ _ hlt (Nat.mod_lt _ (by decide))]
    unfold cq
    have hd : (ts ++ [y]).getD (q / 514) (0, 0) = ts.getD (q / 514) (0, 0) := by simp only [List.getD, List.getElem?_append_left hlt]
    rw [hd]
  · rw [List.getElem?_append_right (by rw [cellsQ_length]; omega), cellsQ_length, hq]
    by_cases h2 : q < (ts.length + 1) * 514
    · have e : q = ts.length * 514 + (q - ts.length * 514) := by omega
      have hr : q - ts.length * 514 < 514 := by omega
      rw [qrow_get _ _ hr]
      generalize q - ts.length * 514 = r at *
      subst e
      rw [cellsQ_get _ _ (by simp) hr]
      unfold cq
      simp
    · rw [List.getElem?_eq_none (by rw [cellsQ_length]; simp; omega), Array.getElem?_eq_none (by rw [qrow_size]; omega)]
theorem cellsQ_set (ts : List (Nat × Nat)) (E : Nat → Nat) {i j : Nat} (hi : i < ts.length) (hj : j < 512) (x : Nat) : (cellsQ ts E).set (i * 514 + (j + 2)) (.int .u64 (x : Int)) = cellsQ ts (putM E (i * 512 + j) x) := by
  apply List.ext_getElem?
  intro q
  rw [List.getElem?_set]
  by_cases h1 : q < ts.length * 514
  · have e : q = q / 514 * 514 + q % 514 := by omega
    have hlt : q / 514 < ts.length := by omega
    have hm := Nat.mod_lt q (show 514 > 0 by decide)
    by_cases h2 : i * 514 + (j + 2) = q
    · rw [if_pos h2, if_pos (by rw [cellsQ_length]; omega), ← h2, cellsQ_get _ _ hi (by omega)]
      unfold cq
      rw [if_neg (by omega), if_neg (by omega), show j + 2 - 2 = j by omega, putM_at]
    · rw [if_neg h2, e, cellsQ_get _ _ hlt hm, cellsQ_get _ _ hlt hm]
      unfold cq
      by_cases r0 : q % 514 = 0
      · rw [if_pos r0, if_pos r0]
      · by_cases r1 : q % 514 = 1
        · rw [if_neg r0, if_neg r0, if_pos r1, if_pos r1]
        · rw [if_neg r0, if_neg r0, if_neg r1, if_neg r1, putM_ne _ (by omega)]
  · rw [if_neg (by omega), List.getElem?_eq_none (by rw [cellsQ_length]; omega), List.getElem?_eq_none (by rw [cellsQ_length]; omega)]
def OwnQ (w : World) (base : Nat) (v : Value) (ts : List (Nat × Nat)) (E : Nat → Nat) : Prop := w.ownsRow base 69 514 v ts.length (cellsQ ts E)
theorem OwnQ.lt {w : World} {base : Nat} {v : Value} {ts : List (Nat × Nat)} {E : Nat → Nat} (h : OwnQ w base v ts E) : ∀ k, v.ownBlock = some k → base ≤ k ∧ k < w.heap.size := World.ownsRow.lt h
theorem OwnQ.keeps {S : Nat → Prop} {w w' : World} {base : Nat} {v : Value} {ts : List (Nat × Nat)} {E : Nat → Nat} (h : OwnQ w base v ts E) (hk : Keeps S w w') (hn : ∀ k, v.ownBlock = some k → ¬ S k) : OwnQ w' base v ts E := by
  refine ⟨h.1, ?_⟩
  rcases h.2 with hv | ⟨g, cap, cur, rfl, hb, hgg, rest⟩
  · exact .inl hv
  · refine .inr ⟨g, cap, cur, rfl, hb, ?_, rest⟩
    rw [hk.block g (Array.getElem?_eq_some_iff.1 hgg).1 (hn g rfl)]
    exact hgg
theorem OwnQ.below {w w' : World} {base : Nat} {v : Value} {ts : List (Nat × Nat)} {E : Nat → Nat} (h : OwnQ w base v ts E) (hb : Below w.heap.size w w') : OwnQ w' base v ts E := h.keeps (Keeps.of_below (S := fun _ => False) hb) (fun _ _ e => e)
/-- a list that is not empty -/
theorem OwnQ.form {w : World} {base : Nat} {v : Value} {ts : List (Nat × Nat)} {E : Nat → Nat} (h : OwnQ w base v ts E) (hp : 0 < ts.length) : ∃ g cap, v = .slice (some ⟨g, 0, none⟩) ts.length cap ∧ ts.length ≤ cap := by
  rcases h.2 with ⟨rfl, h0⟩ | ⟨g, cap, cur, rfl, hb, hg, h1, h2, hs, ht⟩
  · omega
  · exact ⟨g, cap, rfl, h1⟩
theorem OwnQ.cell {w : World} {base g cap : Nat} {ts : List (Nat × Nat)} {E : Nat → Nat} (h : OwnQ w base (.slice (some ⟨g, 0, none⟩) ts.length cap) ts E) {i r : Nat} (hi : i < ts.length) (hr : r < 514) : w.cell? ⟨g, i * 514 + r, none⟩ = some (cq ts E i r) := by
  rw [World.ownsRow.cellAt h (i * 514 + r) (by omega)]
  exact cellsQ_get ts E hi hr
theorem OwnQ.free {w : World} {base g n cap : Nat} {ts : List (Nat × Nat)} {E : Nat → Nat} (h : OwnQ w base (.slice (some ⟨g, 0, none⟩) n cap) ts E) (i : Nat) : w.frozen? ⟨g, i, none⟩ = false := by
  rcases h.2 with ⟨hv, h0⟩ | ⟨g', cap', cur, hv, hb, hg, h1, h2, hs, ht⟩
  · cases hv
  · cases hv
    simp [World.frozen?, hg]
theorem OwnQ.set {w : World} {base g cap : Nat} {ts : List (Nat × Nat)} {E : Nat → Nat} (h : OwnQ w base (.slice (some ⟨g, 0, none⟩) ts.length cap) ts E) {i j : Nat} (hi : i < ts.length) (hj : j < 512) (x : Nat) : OwnQ (w.setCell ⟨g, i * 514 + (j + 2), none⟩ (.int .u64 (x : Int))) base (.slice (some ⟨g, 0, none⟩) ts.length cap) ts (putM E (i * 512 + j) x) := by
  have h3 := (World.ownsRow.stored h (i * 514 + (j + 2)) (.int .u64 (x : Int))).1
  rw [cellsQ_set ts E hi hj] at h3
  exact h3
theorem OwnQ.one (w : World) : OwnQ (w.alloc (.cells (qrow 0 0) 69)) w.heap.size (.slice (some ⟨w.heap.size, 0, none⟩) 1 1) [(0, 0)] (fun _ => 0) := by
  have e : cellsQ [(0, 0)] (fun _ => 0) = (qrow 0 0).toList := by
    have h := cellsQ_snoc [] (0, 0)
    have e0 : cellsQ [] (fun _ => 0) = [] := by simp [cellsQ]
    have e1 : ((vq (0, 0) : Nat) : Int) = 0 := rfl
    have e2 : (((0, 0) : Nat × Nat).1 : Int) = 0 := rfl
    rw [e0, List.nil_append, List.nil_append, e1, e2] at h
    exact h
  unfold OwnQ
  rw [e]
  refine ⟨by rw [Array.length_toList, qrow_size]; rfl, .inr ⟨w.heap.size, 1, qrow 0 0, rfl, Nat.le_refl _, heap_alloc_new w _, Nat.le_refl _, by unfold maxLen; decide, by rw [qrow_size], ?_⟩⟩
  rw [List.take_of_length_le (by simp [qrow_size])]
end Go.Proofs.YtlplbbnicfeoaaaGreat
/- Pages: the document's has, find, reach, unit. Own work. -/
namespace Go.Proofs.YtlplbbnicfeoaaaGreat
open Go.RowKit Wk
set_option linter.unusedVariables false
set_option maxRecDepth 20000
theorem preach_any {l r : Nat} (h : (l = 0 ∧ r = 549755813888) ∨ (l = 1 ∧ r = 1073741824) ∨ (l = 2 ∧ r = 2097152)) (w : World) : Calls Tryz.prog 23 #[.int .i64 (l : Int)] w fun e w' => e = .returned (.int .u64 (r : Int)) ∧ Below w.heap.size w w' := by
  rcases h with ⟨rfl, rfl⟩ | ⟨rfl, rfl⟩ | ⟨rfl, rfl⟩
  all_goals
    go_enter Tryz.func23, Tryz.ntmps23
    go_wp2_with fail
    go_ret
    exact ⟨rfl, (Below.refl _ _).alloc (Nat.le_refl _) _⟩
set_option maxHeartbeats 1000000 in
theorem runit_any (x : L6) (w : World) : Calls Tryz.prog 20 #[V6 x] w fun e w' => e = .returned (.int .u64 (unitF x : Int)) ∧ Below w.heap.size w w' := by
  obtain ⟨v, p, n, big, wr, ex⟩ := x
  unfold V6 unitF
  cases big with
  | true =>
    go_enter Tryz.func20, Tryz.ntmps20
    go_wp2_with fail
    go_ret
    exact ⟨rfl, (Below.refl _ _).alloc (Nat.le_refl _) _⟩
  | false =>
    go_enter Tryz.func20, Tryz.ntmps20
    go_wp2_with fail
    go_ret
    exact ⟨rfl, (Below.refl _ _).alloc (Nat.le_refl _) _⟩
theorem vq_inj {y : Nat × Nat} {lv k : Nat} (hl : lv = 1 ∨ lv = 2) (h1 : y.1 = lv) (h2 : vq y = vq (lv, k)) : y = (lv, k) := by
  obtain ⟨a, b⟩ := y
  simp only at h1
  subst h1
  unfold vq at h2
  rcases hl with rfl | rfl
  · simp only [if_true] at h2
    have : b = k := by omega
    rw [this]
  · simp only [show ¬ ((2 : Nat) = 1) by decide, if_false, if_true] at h2
    have : b = k := by omega
    rw [this]
theorem getD_get {ts : List (Nat × Nat)} {i : Nat} (h : i < ts.length) : ts.getD i (0, 0) = ts[i] := by simp [List.getD, h]
set_option maxHeartbeats 4000000 in
theorem has_any {w : World} {b g cap : Nat} {ts : List (Nat × Nat)} {E : Nat → Nat} (h : OwnQ w b (.slice (some ⟨g, 0, none⟩) ts.length cap) ts E) (hlen : ts.length ≤ 2000) {lv k V : Nat} (hl : lv = 1 ∨ lv = 2) (hV : vq (lv, k) = V) (hcap : ts.length ≤ cap) : Calls Tryz.prog 47 #[.slice (some ⟨g, 0, none⟩) ts.length cap, .int .i64 (lv : Int), .int .u64 (V : Int)] w fun e w' => e = .returned (.bool (decide ((lv, k) ∈ ts))) ∧ Below w.heap.size w w' := by
  have HQ := Lib.hid h
  obtain ⟨n, hn⟩ : ∃ n, ts.length = n := ⟨_, rfl⟩
  have HN := Lib.hid hn
  have HV := Lib.hid hV
  have HLv := Lib.hid hl
  rw [hn] at hlen hcap ⊢
  have HB0 : Hid (Below w.heap.size w w) := Below.refl _ _
  have HA0 : Hid (∀ i, n ≤ i → ts[i]? ≠ some (lv, k)) := fun i hi => by rw [List.getElem?_eq_none (by omega)]; exact fun e => by cases e
  have w0 : IntKind.i64.wrap ((n : Int) - 1) = (n : Int) - 1 := by rw [IntKind.wrap_i64]; omega
  clear h hn hl hV
  go_enter Tryz.func47, Tryz.ntmps47
  go_wp2_with fail
  go_loopw [7] (fun iv wr => ∃ (j : Nat) (z : Int), j ≤ n ∧ iv = .int .i64 z ∧ z = (j : Int) - 1 ∧ Hid (∀ i, j ≤ i → ts[i]? ≠ some (lv, k)) ∧ Hid (Below w.heap.size w wr)) (fun iv _ => (intOf iv + 1).toNat)
  case atStart => exact ⟨n, (n : Int) - 1, Nat.le_refl _, rfl, rfl, HA0, HB0⟩
  case round =>
    clear HB0 HA0 w0
    obtain ⟨j, z, hj, rfl, hz, HA, HB⟩ := hrel
    by_cases hj0 : j = 0
    · have jz : ¬ (0 : Int) ≤ z := by omega
      have HR : Hid (decide ((lv, k) ∈ ts) = false) := Lib.hid (decide_eq_false (fun hm => by
        obtain ⟨i, hi⟩ := List.mem_iff_getElem?.1 hm
        exact HA.out i (by omega) hi))
      clear HA
      go_wp2_with fail
      go_ret
      exact ⟨by rw [HR.out]; rfl, HB.out⟩
    · obtain ⟨i, rfl⟩ : ∃ i, j = i + 1 := ⟨j - 1, by omega⟩
      have hz2 : z = (i : Int) := by omega
      subst hz2
      have hi : i < ts.length := by rw [HN.out]; omega
      have jz : (0 : Int) ≤ (i : Int) := by omega
      have jn : (i : Int) < (n : Int) := by omega
      have wz : IntKind.i64.wrap ((i : Int) - 1) = (i : Int) - 1 := by rw [IntKind.wrap_i64]; omega
      have HQw : Hid (OwnQ wr b (.slice (some ⟨g, 0, none⟩) ts.length cap) ts E) := HQ.out.below HB.out
      have d0 := HQw.out.cell (i := i) (r := 0) hi (by decide)
      have d1 := HQw.out.cell (i := i) (r := 1) hi (by decide)
      unfold cq at d0 d1
      rw [getD_get hi, if_pos rfl] at d0
      rw [getD_get hi, if_neg (by decide), if_pos rfl] at d1
      have HY : Hid (ts[i]? = some ts[i]) := Lib.hid (List.getElem?_eq_getElem hi)
      generalize ts[i] = y at *
      obtain ⟨l0, hl0⟩ : ∃ l0, y.1 = l0 := ⟨_, rfl⟩
      obtain ⟨v0, hv0⟩ : ∃ v0, vq y = v0 := ⟨_, rfl⟩
      rw [hl0] at d0
      rw [hv0] at d1
      rw [Nat.add_zero] at d0
      have HL0 := Lib.hid hl0
      have HV0 := Lib.hid hv0
      clear hl0 hv0 hz
      by_cases h1 : l0 = lv
      · by_cases h2 : v0 = V
        · have HR : Hid (decide ((lv, k) ∈ ts) = true) := Lib.hid (decide_eq_true (by
            have e : y = (lv, k) := vq_inj HLv.out (HL0.out.trans h1) (by rw [HV0.out, h2, HV.out])
            exact List.mem_iff_getElem?.2 ⟨i, by rw [HY.out, e]⟩))
          subst h1 h2
          go_wp2_with fail
          go_ret
          exact ⟨by rw [HR.out]; rfl, HB.out⟩
        · have j2 : ¬ (v0 : Int) = (V : Int) := by omega
          have HA2 : Hid (∀ q, i ≤ q → ts[q]? ≠ some (lv, k)) := fun q hq e => by
            by_cases hqi : q = i
            · rw [hqi, HY.out] at e
              cases e
              exact h2 (by rw [← HV0.out, HV.out])
            · exact HA.out q (by omega) e
          subst h1
          clear HA
          go_wp2_with fail
          go_roundw
          case rel => exact ⟨i, (i : Int) - 1, by omega, rfl, rfl, HA2, HB⟩
          case measure => simp [intOf]
      · have j1 : ¬ (l0 : Int) = (lv : Int) := by omega
        have HA2 : Hid (∀ q, i ≤ q → ts[q]? ≠ some (lv, k)) := fun q hq e => by
          by_cases hqi : q = i
          · rw [hqi, HY.out] at e
            cases e
            exact h1 HL0.out.symm
          · exact HA.out q (by omega) e
        clear HA
        go_wp2_with fail
        go_roundw
        case rel => exact ⟨i, (i : Int) - 1, by omega, rfl, rfl, HA2, HB⟩
        case measure => simp [intOf]
set_option maxHeartbeats 4000000 in
theorem find_any {w : World} {b g cap : Nat} {ts : List (Nat × Nat)} {E : Nat → Nat} (h : OwnQ w b (.slice (some ⟨g, 0, none⟩) ts.length cap) ts E) (hlen : ts.length ≤ 2000) {lv k V I : Nat} (hl : lv = 1 ∨ lv = 2) (hV : vq (lv, k) = V) (hcap : ts.length ≤ cap) (hI : ts[I]? = some (lv, k)) (hF : ∀ i, ts[i]? = some (lv, k) → i = I) : Calls Tryz.prog 24 #[.slice (some ⟨g, 0, none⟩) ts.length cap, .int .i64 (lv : Int), .int .u64 (V : Int)] w fun e w' => e = .returned (.int .i64 (I : Int)) ∧ Below w.heap.size w w' := by
  have HQ := Lib.hid h
  obtain ⟨n, hn⟩ : ∃ n, ts.length = n := ⟨_, rfl⟩
  have HN := Lib.hid hn
  have HV := Lib.hid hV
  have HLv := Lib.hid hl
  have HI := Lib.hid hI
  have HF := Lib.hid hF
  have hIn : I < n := by rw [← hn]; exact (List.getElem?_eq_some_iff.1 hI).1
  rw [hn] at hlen hcap ⊢
  have HB0 : Hid (Below w.heap.size w w) := Below.refl _ _
  clear h hn hl hV hI hF
  go_enter Tryz.func24, Tryz.ntmps24
  go_wp2_with fail
  go_loopw [7] (fun iv wr => ∃ (i : Nat), i ≤ I ∧ iv = .int .i64 (i : Int) ∧ Hid (Below w.heap.size w wr)) (fun iv _ => n - (intOf iv).toNat)
  case atStart => exact ⟨0, Nat.zero_le _, rfl, HB0⟩
  case round =>
    clear HB0
    obtain ⟨i, hiI, rfl, HB⟩ := hrel
    have hi : i < ts.length := by rw [HN.out]; omega
    have jn : (i : Int) < (n : Int) := by omega
    have wz : IntKind.i64.wrap ((i : Int) + 1) = ((i + 1 : Nat) : Int) := by rw [IntKind.wrap_i64]; omega
    have HQw : Hid (OwnQ wr b (.slice (some ⟨g, 0, none⟩) ts.length cap) ts E) := HQ.out.below HB.out
    have d0 := HQw.out.cell (i := i) (r := 0) hi (by decide)
    have d1 := HQw.out.cell (i := i) (r := 1) hi (by decide)
    unfold cq at d0 d1
    rw [getD_get hi, if_pos rfl] at d0
    rw [getD_get hi, if_neg (by decide), if_pos rfl] at d1
    have HY : Hid (ts[i]? = some ts[i]) := Lib.hid (List.getElem?_eq_getElem hi)
    generalize ts[i] = y at *
    obtain ⟨l0, hl0⟩ : ∃ l0, y.1 = l0 := ⟨_, rfl⟩
    obtain ⟨v0, hv0⟩ : ∃ v0, vq y = v0 := ⟨_, rfl⟩
    rw [hl0] at d0
    rw [hv0] at d1
    rw [Nat.add_zero] at d0
    have HL0 := Lib.hid hl0
    have HV0 := Lib.hid hv0
    clear hl0 hv0
    by_cases hiE : i = I
    · have e : y = (lv, k) := by
        have h5 := HI.out
        rw [← hiE, HY.out] at h5
        cases h5
        rfl
      have h1 : l0 = lv := by rw [← HL0.out, e]
      have h2 : v0 = V := by rw [← HV0.out, e, HV.out]
      subst h1 h2 hiE
      clear e
      go_wp2_with fail
      go_ret
      exact ⟨rfl, HB.out⟩
    · have hne : ¬ (l0 = lv ∧ v0 = V) := fun ⟨h1, h2⟩ => by
        have e : y = (lv, k) := vq_inj HLv.out (HL0.out.trans h1) (by rw [HV0.out, h2, HV.out])
        exact hiE (HF.out i (by rw [HY.out, e]))
      by_cases h1 : l0 = lv
      · have j2 : ¬ (v0 : Int) = (V : Int) := fun e => hne ⟨h1, by omega⟩
        subst h1
        clear hne
        go_wp2_with fail
        go_roundw
        case rel => exact ⟨i + 1, by omega, rfl, HB⟩
        case measure => simp [intOf]; omega
      · have j1 : ¬ (l0 : Int) = (lv : Int) := by omega
        clear hne
        go_wp2_with fail
        go_roundw
        case rel => exact ⟨i + 1, by omega, rfl, HB⟩
        case measure => simp [intOf]; omega
end Go.Proofs.YtlplbbnicfeoaaaGreat
