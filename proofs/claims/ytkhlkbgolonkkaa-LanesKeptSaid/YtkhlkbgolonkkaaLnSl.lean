/- Lanes: Roomy, Same, Intact of slots (written by parts/gen_ln3.py off those of stints). Own work. -/
import Derived.Test.YtkhlkbgolonkkaaLnInt
import Derived.Test.YtkhlkbgolonkkaaLnMem
namespace Go.Proofs.Ytkhlkbgolonkkaa
open Go.RowKit
/-- what an int holds -/
def I64 (x : S3) : Prop := -9223372036854775808 ≤ x.f ∧ x.f ≤ 9223372036854775807 ∧ -9223372036854775808 ≤ x.t ∧ x.t ≤ 9223372036854775807
/-- slots that are read, wherever they lie -/
def Rs (w : World) (v : Value) (xs : List S3) : Prop :=
  ∃ ao cap, v = .slice ao xs.length cap ∧ xs.length ≤ cap ∧ cap ≤ maxLen ∧ (∀ x ∈ xs, I64 x) ∧ ∀ i (h : i < xs.length), ∃ b o, ao = some ⟨b, o, none⟩ ∧ w.cell? ⟨b, o + i * 3, none⟩ = some (.string xs[i].s) ∧ w.cell? ⟨b, o + i * 3 + 1, none⟩ = some (.int .i64 xs[i].f) ∧ w.cell? ⟨b, o + i * 3 + 2, none⟩ = some (.int .i64 xs[i].t)
theorem Rs.below {w w' : World} {v : Value} {xs : List S3} (h : Rs w v xs) (hb : Below w.heap.size w w') : Rs w' v xs := by
  obtain ⟨ao, cap, rfl, h1, h2, h4, h3⟩ := h
  refine ⟨ao, cap, rfl, h1, h2, h4, fun i hi => ?_⟩
  obtain ⟨b, o, rfl, c0, c1, c2⟩ := h3 i hi
  have hl := World.block_lt_of_cell? w _ c0
  exact ⟨b, o, rfl, (hb.cell (p := ⟨b, o + i * 3, none⟩) hl).trans c0, (hb.cell (p := ⟨b, o + i * 3 + 1, none⟩) hl).trans c1, (hb.cell (p := ⟨b, o + i * 3 + 2, none⟩) hl).trans c2⟩
theorem enc3s_one (xs : List S3) : ∀ u ∈ enc3s xs, u.oneCell' = true := by
  intro u hu
  obtain ⟨x, _, hx⟩ := List.mem_flatMap.1 hu
  exact enc3_one x u hx
def mk3 : S3 := ⟨⟨#[109, 97, 114, 107]⟩, 0, 0⟩
def z3 : S3 := ⟨⟨#[]⟩, 0, 0⟩
/-- a row of slots, known whole -/
def Row3 (w : World) (g : Nat) (L : List S3) : Prop := w.heap[g]? = some (.cells (enc3s L).toArray 37 (0, 0))
theorem Row3.lt {w : World} {g : Nat} {L : List S3} (h : Row3 w g L) : g < w.heap.size := (Array.getElem?_eq_some_iff.1 h).1
theorem Row3.cell {w : World} {g : Nat} {L : List S3} (h : Row3 w g L) (j i : Nat) (hj : j < L.length) (hi : i < 3) : w.cell? ⟨g, j * 3 + i, none⟩ = (enc3 L[j])[i]? := by
  rw [cell_of_row _ _ _ _ _ _ h]
  rw [show ((enc3s L).toArray[j * 3 + i]?) = (enc3s L)[j * 3 + i]? by simp]
  exact enc3s_get L j i hj hi
theorem Row3.below {w w' : World} {g : Nat} {L : List S3} (h : Row3 w g L) (hb : Below w.heap.size w w') : Row3 w' g L := (hb.block g h.lt).trans h
theorem Row3.rd {w : World} {g n c : Nat} {L : List S3} (h : Row3 w g L) (hn : n ≤ L.length) (hc : n ≤ c) (hm : c ≤ maxLen) (hx : ∀ x ∈ L.take n, I64 x) : Rs w (.slice (some ⟨g, 0, none⟩) n c) (L.take n) := by
  have hl : (L.take n).length = n := by rw [List.length_take]; omega
  refine ⟨some ⟨g, 0, none⟩, c, by rw [hl], by rw [hl]; exact hc, hm, hx, fun i hi => ⟨g, 0, rfl, ?_, ?_, ?_⟩⟩
  · have := h.cell i 0 (by omega) (by omega)
    rw [Nat.zero_add, List.getElem_take]
    exact this
  · have := h.cell i 1 (by omega) (by omega)
    rw [Nat.zero_add, List.getElem_take]
    exact this
  · have := h.cell i 2 (by omega) (by omega)
    rw [Nat.zero_add, List.getElem_take]
    exact this

/-- the copy of slots into a row that is known -/
theorem wpList_copy3 {w : World} {ops : Array Oper} {rest : List Oper} {o : Oper} {a : Act} {Q : Exit → Act → World → Prop} (hgd : o.guard = none) (d s : Operand)
    (ho : o.op = .call { callee := .builtin .copy, args := #[d, s], argTypes := #[31, 31] }) {g dCap m : Nat} {v : Value} {xs : List S3} (hd : a.eval d = .slice (some ⟨g, 0, none⟩) (xs.length + m) dCap) (hs : a.eval s = v) (hr : Row3 w g (List.replicate (xs.length + m) z3)) (hv : Rs w v xs)
    (h : ∀ w', Hid (Row3 w' g (xs ++ List.replicate m z3)) → Hid (Keeps (fun k => k = g) w w') → wpList Try.prog ops Q rest (a.put o.dst (goInt xs.length)) w') : wpList Try.prog ops Q (o :: rest) a w := by
  obtain ⟨i, hi, hz0, hz1, hz2⟩ := info_parts info_slot
  have hsz : (Try.prog.info? 37).map (·.size) = some 3 := by rw [hi, Option.map_some, hz1]
  obtain ⟨ao, cap, rfl, h1, h2, h3, h4⟩ := hv
  refine wpList_plain hgd fun K hK => ?_
  by_cases hp : 0 < xs.length
  · obtain ⟨b, of, rfl, _⟩ := h4 0 hp
    have hrun := run_copyS (P := Try.prog) w 31 31 o.type 37 3 g 0 (xs.length + m) dCap ⟨b, of, none⟩ xs.length cap (enc3s (List.replicate (xs.length + m) z3)).toArray 37 (enc3s xs) Try.underlying31 hsz hr (by rw [enc3s_length, show Nat.min xs.length (xs.length + m) = xs.length from Nat.min_eq_left (by omega)]) (fun j u hj => by
      have hjl : j < xs.length * 3 := by have := (List.getElem?_eq_some_iff.1 hj).1; rw [enc3s_length] at this; exact this
      obtain ⟨b', o', e, c0, c1, c2⟩ := h4 (j / 3) (by omega)
      cases e
      rw [Addr.add_lit]
      have hj2 : j = j / 3 * 3 + j % 3 := by omega
      rw [hj2, enc3s_get xs (j / 3) (j % 3) (by omega) (by omega)] at hj
      rcases (by omega : j % 3 = 0 ∨ j % 3 = 1 ∨ j % 3 = 2) with e | e | e
      · rw [e] at hj
        rw [hj2, e, Nat.add_zero, c0]
        exact hj
      · rw [e] at hj
        rw [hj2, e, ← Nat.add_assoc, c1]
        exact hj
      · rw [e] at hj
        rw [hj2, e, ← Nat.add_assoc, c2]
        exact hj) (by simp [enc3s_length]; omega) (enc3s_one xs)
    rw [show Nat.min xs.length (xs.length + m) = xs.length from Nat.min_eq_left (by omega)] at hrun
    unfold Oper.wp
    simp only [execOp, ho, resolve, invoke, builtin, Sem.run_bind, Sem.run_pure, List.map_toArray, List.map_cons, List.map_nil, hd, hs, hrun, Result.andThen_ok]
    refine hK _ _ (h _ ?_ ⟨rfl, rfl, rfl, by simp [World.setRow], fun k _ hk => setRow_other w g k _ hk⟩)
    have e : (enc3s (List.replicate (xs.length + m) z3)).toArray.toList.take 0 ++ enc3s xs ++ (enc3s (List.replicate (xs.length + m) z3)).toArray.toList.drop (0 + (enc3s xs).length) = enc3s (xs ++ List.replicate m z3) := by
      rw [← List.replicate_append_replicate, enc3s_append, enc3s_append]
      simp only [List.take_zero, List.nil_append, Nat.zero_add]
      rw [List.drop_append_of_le_length (by rw [enc3s_length, enc3s_length, List.length_replicate]; exact Nat.le_refl _), List.drop_of_length_le (by rw [enc3s_length, enc3s_length, List.length_replicate]; exact Nat.le_refl _), List.nil_append]
    show _ = _
    rw [e]
    exact setRow_heap w g _ _ _ _ hr
  · obtain rfl : xs = [] := List.eq_nil_of_length_eq_zero (by omega)
    have hr' : Row3 w g (List.replicate m z3) := by
      have := hr
      rw [List.length_nil, Nat.zero_add] at this
      exact this
    have hrun : (Builtin.copy_ #[31, 31] o.type #[.slice (some ⟨g, 0, none⟩) (([] : List S3).length + m) dCap, .slice ao ([] : List S3).length cap]).run Try.prog w = .ok (goInt 0) w := by
      cases ao with
      | none => exact run_copyN w _ _ _ 37 _ _ _ _ Try.underlying31 (by rw [hsz]; rfl)
      | some ad =>
        have := run_copyS (P := Try.prog) w 31 31 o.type 37 3 g 0 (([] : List S3).length + m) dCap ad 0 cap (enc3s (List.replicate m z3)).toArray 37 [] Try.underlying31 hsz hr' (by simp) (fun j u hj => by simp at hj) (by simp) (fun _ h => by cases h)
        rw [show Nat.min 0 (([] : List S3).length + m) = 0 from Nat.zero_min _] at this
        have e : ((enc3s (List.replicate m z3)).toArray.toList.take 0 ++ [] ++ (enc3s (List.replicate m z3)).toArray.toList.drop (0 + ([] : List Value).length)).toArray = (enc3s (List.replicate m z3)).toArray := by simp
        rw [e, setRow_self w g _ _ _ hr'] at this
        exact this
    unfold Oper.wp
    simp only [execOp, ho, resolve, invoke, builtin, Sem.run_bind, Sem.run_pure, List.map_toArray, List.map_cons, List.map_nil, hd, hs, hrun, Result.andThen_ok]
    exact hK _ _ (h w (by rw [List.nil_append]; exact hr') (Keeps.refl _ _))
theorem Row3.set {w : World} {g : Nat} {L : List S3} (h : Row3 w g L) (j : Nat) (hj : j < L.length) (x : S3) : Row3 (((w.setCell ⟨g, j * 3, none⟩ (.string x.s)).setCell ⟨g, j * 3 + 1, none⟩ (.int .i64 x.f)).setCell ⟨g, j * 3 + 2, none⟩ (.int .i64 x.t)) g (L.set j x) := by
  have h0 : w.heap[g]? = some (.cells (enc3s L).toArray 37 (0, 0)) := h
  have e : enc3s (L.set j x) = (((enc3s L).set (j * 3) (.string x.s)).set (j * 3 + 1) (.int .i64 x.f)).set (j * 3 + 2) (.int .i64 x.t) := by
    clear h h0
    induction L generalizing j with
    | nil => simp at hj
    | cons y ys ih =>
      cases j with
      | zero => rfl
      | succ j =>
        have := ih j (by simpa using hj)
        rw [List.set_cons_succ, show enc3s (y :: ys.set j x) = enc3 y ++ enc3s (ys.set j x) from rfl, this, show enc3s (y :: ys) = enc3 y ++ enc3s ys from rfl]
        rw [List.set_append_right _ _ (by simp [enc3]; omega), show (j + 1) * 3 - (enc3 y).length = j * 3 by simp [enc3]; omega, List.set_append_right _ _ (by simp [enc3]; omega), show (j + 1) * 3 + 1 - (enc3 y).length = j * 3 + 1 by simp [enc3]; omega, List.set_append_right _ _ (by simp [enc3]; omega), show (j + 1) * 3 + 2 - (enc3 y).length = j * 3 + 2 by simp [enc3]; omega]
  unfold Row3
  rw [e]
  simp [World.setCell, Array.getElem?_modify, h0]
/-- a row with 80 more places, of which k bear the mark -/
def fill3 (p : List S3) (k : Nat) : List S3 := p ++ (List.replicate k mk3 ++ List.replicate (80 - k) z3)
def room3 (p : List S3) : List S3 := p ++ List.replicate 80 mk3
theorem fill3_len (p : List S3) (k : Nat) (hk : k ≤ 80) : (fill3 p k).length = p.length + 80 := by simp [fill3]; omega
theorem room3_len (p : List S3) : (room3 p).length = p.length + 80 := by rw [room3, List.length_append, List.length_replicate]
theorem fill3_set (p : List S3) (k : Nat) (hk : k < 80) : (fill3 p k).set (p.length + k) mk3 = fill3 p (k + 1) := by
  unfold fill3
  rw [List.set_append_right _ _ (by omega), Nat.add_sub_cancel_left, List.set_append_right _ _ (by simp), List.length_replicate, Nat.sub_self, show 80 - k = (80 - (k + 1)) + 1 by omega, List.replicate_succ, List.set_cons_zero, List.replicate_succ', List.append_assoc]
  rfl
theorem fill3_end (p : List S3) : fill3 p 80 = room3 p := by simp only [fill3, room3, Nat.sub_self, List.replicate_zero, List.append_nil]
theorem made3 {w : World} {base g n : Nat} (h : w.ownsRow base 37 3 (.slice (some ⟨g, 0, none⟩) n n) n (madeCells #[Value.string ⟨#[]⟩, .int .i64 0, .int .i64 0] (n * 3)).toList) : Row3 w g (List.replicate n z3) := by
  rcases h.2 with ⟨hc, _⟩ | ⟨g', cap, cur, hv, _, hg, _, _, hs, ht⟩
  · cases hc
  · cases hv
    unfold Row3
    rw [hg]
    have e : cur.toList = enc3s (List.replicate n z3) := by
      rw [List.take_of_length_le (by simp [hs])] at ht
      rw [ht]
      apply List.ext_getElem?
      intro j
      by_cases hj : j < n * 3
      · rw [show j = j / 3 * 3 + j % 3 by omega, enc3s_get _ (j / 3) (j % 3) (by rw [List.length_replicate]; omega) (by omega), List.getElem_replicate]
        rw [Array.getElem?_toList]
        have hj' : j / 3 * 3 + j % 3 < (madeCells #[Value.string ⟨#[]⟩, .int .i64 0, .int .i64 0] (n * 3)).size := by rw [size_madeCells]; omega
        rw [Array.getElem?_eq_getElem hj']
        have hg : (madeCells #[Value.string ⟨#[]⟩, .int .i64 0, .int .i64 0] (n * 3))[j / 3 * 3 + j % 3] = (#[Value.string ⟨#[]⟩, .int .i64 0, .int .i64 0] : Array Value)[(j / 3 * 3 + j % 3) % 3]! := by
          simp only [madeCells, Array.getElem_map, Array.getElem_range]
          rfl
        rw [hg, show (j / 3 * 3 + j % 3) % 3 = j % 3 by omega]
        rcases (by omega : j % 3 = 0 ∨ j % 3 = 1 ∨ j % 3 = 2) with e | e | e <;> rw [e] <;> rfl
      · rw [List.getElem?_eq_none (by rw [Array.length_toList, size_madeCells]; omega), List.getElem?_eq_none (by rw [enc3s_length, List.length_replicate]; omega)]
    rw [← e]
/-- two slots that are the same -/
theorem eq_sl (w : World) (s : ByteArray) (a b : Int) : (Op.equalIn 10000 37 (.agg #[.string s, .int .i64 a, .int .i64 b]) (.agg #[.string s, .int .i64 a, .int .i64 b])).run Try.prog w = .ok true w := by
  have u1 := Try.underlying3
  have a1 := Try.isAgg3
  have z1 := Try.sizeOf3
  have u3 := Try.underlying9
  have a3 := Try.isAgg9
  have z3 := Try.sizeOf9
  have hS : Try.prog.underlying 37 = some (.struct (Try.prog.fieldsOf 37)) := by kernel_rfl
  have hp : Try.prog.stoodInHeld 37 = false := by kernel_rfl
  rw [show (10000 : Nat) = 9999 + 1 from rfl, run_equalIn_agg w 9999 37 _ _ hS hp]
  simp only [Program.fieldsOf, Try.underlying37]
  go_simp
theorem guard_sl : Try.prog.eqGuardType Try.prog.depth 37 = false := by kernel_rfl
theorem neq_sl (w : World) (s : ByteArray) (a b : Int) : (binOp .neq 37 (.agg #[.string s, .int .i64 a, .int .i64 b]) (.agg #[.string s, .int .i64 a, .int .i64 b])).run Try.prog w = .ok (.bool false) w := by
  rw [run_neq_struct, eq_sl]
  rfl
theorem step_neq_sl {w : World} {ops : Array Oper} {o : Oper} {a : Act} {K : Act → World → Prop} {Q : Exit → Act → World → Prop} {E : Prop} (s' : ByteArray) (b c : Int) (hw : Region.wanted o (yielded ops a.tmps) = true) (x y : Operand) {t' : TypeId} (ho : o.op = .binOp .neq 37 x y t')
    (hx : a.eval x = .agg #[.string s', .int .i64 b, .int .i64 c]) (hy : a.eval y = .agg #[.string s', .int .i64 b, .int .i64 c]) (h : K (a.put o.dst (.bool false)) w) : if Region.wanted o (yielded ops a.tmps) = true then Oper.wp Try.prog o a w K Q else E := by
  rw [if_pos hw]
  unfold Oper.wp execOp
  have hg : (eqGuard .neq 37 x y (.agg #[.string s', .int .i64 b, .int .i64 c]) (.agg #[.string s', .int .i64 b, .int .i64 c])).run Try.prog w = .ok () w := run_eqGuard_agg w _ _ _ _ _ _ guard_sl
  simp only [ho, hx, hy, Sem.run_bind, Sem.run_pure, Result.andThen_ok, hg, neq_sl]
  exact h
set_option maxRecDepth 100000 in
set_option maxHeartbeats 4000000 in
theorem same3_any {u v : Value} {xs : List S3} {w : World} (hu : Rs w u xs) (hv : Rs w v xs) :
    Calls Try.prog 12 #[u, v] w fun e w' => e = .returned (.bool true) ∧ Below w.heap.size w w' := by
  have HU := Lib.hid hu
  have HV := Lib.hid hv
  obtain ⟨ao, c1, rfl, h1, h2, _⟩ := hu
  obtain ⟨ao2, c2, rfl, h3, h4, _⟩ := hv
  unfold maxLen at h2 h4
  obtain ⟨n, hn⟩ : ∃ n, xs.length = n := ⟨_, rfl⟩
  rw [hn] at h1 h3 ⊢
  have HN := Lib.hid hn
  clear hn
  go_enter Try.func12, Try.ntmps12
  go_wp2_with fail
  go_loopw [5] (fun iv wr => ∃ k : Nat, k ≤ n ∧ iv = .int .i64 (k : Int) ∧ Hid (Below w.heap.size w wr)) (fun iv _ => n - (intOf iv).toNat)
  case atStart => exact ⟨0, Nat.zero_le _, rfl, Below.refl _ _⟩
  case round =>
    obtain ⟨k, hk, rfl, HB⟩ := hrel
    by_cases hlt : k < n
    · have hkx : k < xs.length := by rw [HN.out]; exact hlt
      have ji : (k : Int) < (n : Int) := by omega
      have hw1 : IntKind.i64.wrap ((k : Int) + 1) = ((k + 1 : Nat) : Int) := by rw [IntKind.wrap_i64]; omega
      obtain ⟨_, _, e1, _, _, _, hc1⟩ := HU.out.below HB.out
      obtain ⟨_, _, e2, _, _, _, hc2⟩ := HV.out.below HB.out
      simp only [Value.slice.injEq] at e1 e2
      obtain ⟨rfl, _, rfl⟩ := e1
      obtain ⟨rfl, _, rfl⟩ := e2
      obtain ⟨b1, o1, rfl, q0, q1, q2⟩ := hc1 k hkx
      obtain ⟨b2, o2, rfl, p0, p1, p2⟩ := hc2 k hkx
      clear hc1 hc2
      generalize xs[k] = x at *
      obtain ⟨s, f, t⟩ := x
      simp only at q0 q1 q2 p0 p1 p2
      go_wp2_with fail
      go_region_law (refine step_neq_sl s f t (by kernel_rfl) (.tmp 20) (.tmp 24) (by rfl) (by rfl) (by rfl) ?_)
      all_goals
        go_wp2_with fail
        go_roundw
        case rel => exact ⟨k + 1, by omega, rfl, by repeat (first | exact HB.out | refine Below.drew ?_)⟩
        case measure => simp [intOf]; omega
    · go_wp2_with fail
      go_ret
      exact ⟨rfl, HB.out⟩

end Go.Proofs.Ytkhlkbgolonkkaa
