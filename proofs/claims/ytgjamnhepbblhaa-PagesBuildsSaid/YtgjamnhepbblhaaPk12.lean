import Derived.Test.YtgjamnhepbblhaaPk11
import Derived.Test.YtgjamnhepbblhaaPk10
import Derived.Deep.RegionLaw
/- Pages: lists of leaves that are the same. Own work. -/
namespace Go.Proofs.Ytgjamnhepbblhaa
open Go.RowKit Wk
set_option linter.unusedVariables false
theorem leaf_equal (x : L6) (w : World) : (Op.equalIn 10000 34 (V6 x) (V6 x)).run Try.prog w = .ok true w := by
  obtain ⟨v, p, n, b, wr, ex⟩ := x
  have u1 := Try.underlying4
  have a1 := Try.isAgg4
  have z1 := Try.sizeOf4
  have u := Try.underlying23
  have a2 := Try.isAgg23
  have z := Try.sizeOf23
  have u3 := Try.underlying3
  have a3 := Try.isAgg3
  have z3 := Try.sizeOf3
  have hS : Try.prog.underlying 34 = some (.struct (Try.prog.fieldsOf 34)) := by kernel_rfl
  have hp : Try.prog.stoodInHeld 34 = false := by kernel_rfl
  rw [V6, show (10000 : Nat) = 9999 + 1 from rfl, run_equalIn_agg w 9999 34 _ _ hS hp]
  simp only [Program.fieldsOf, Try.underlying34]
  go_simp
theorem leaf_neq (x : L6) (w : World) : (binOp .neq 34 (V6 x) (V6 x)).run Try.prog w = .ok (.bool false) w := by
  have := leaf_equal x w
  rw [V6] at *
  rw [run_neq_struct, this]
  rfl
theorem guard_leaf : Try.prog.eqGuardType Try.prog.depth 34 = false := by kernel_rfl
theorem quiet_load_leaf {o : Oper} {a : Act} {C : World → Prop} {K : Act → Prop} (x : Operand) (ho : o.op = .load 34 x) {p V : Value} (hx : a.eval x = p) (hl : ∀ w, C w → (Instr.loadAt 34 p).run Try.prog w = .ok V w) (hk : ∀ a', a.put o.dst V = a' → K a') : o.quiet Try.prog a C K :=
  ⟨V, fun w hw => by
    unfold Oper.quietAt execOp
    simp only [ho, hx, Sem.run_bind, Sem.run_pure, Result.andThen_ok, hl w hw]
    exact ⟨rfl, rfl⟩, hk _ rfl⟩
theorem quiet_neq_leaf {o : Oper} {a : Act} {C : World → Prop} {K : Act → Prop} (x y : Operand) {t' : TypeId} (ho : o.op = .binOp .neq 34 x y t') {V : Value} {f : L6} (hV : V = V6 f) (hx : a.eval x = V) (hy : a.eval y = V) (hk : ∀ a', a.put o.dst (.bool false) = a' → K a') : o.quiet Try.prog a C K :=
  ⟨_, fun w hw => by
    subst hV
    have hg : (eqGuard .neq 34 x y (V6 f) (V6 f)).run Try.prog w = .ok () w := run_eqGuard_agg w _ _ _ _ _ _ guard_leaf
    unfold Oper.quietAt execOp
    simp only [ho, hx, hy, Sem.run_bind, Sem.run_pure, Result.andThen_ok, hg, leaf_neq]
    exact ⟨rfl, rfl⟩, hk _ rfl⟩
theorem leaf_load {w : World} {b o : Nat} {x : L6} (c0 : w.cell? ⟨b, o, none⟩ = some (.int .u64 (x.v : Int))) (c1 : w.cell? ⟨b, o + 1, none⟩ = some (.int .u64 (x.p : Int))) (c2 : w.cell? ⟨b, o + 2, none⟩ = some (.int .i64 x.n)) (c3 : w.cell? ⟨b, o + 3, none⟩ = some (.bool x.big)) (c4 : w.cell? ⟨b, o + 4, none⟩ = some (.bool x.wr)) (c5 : w.cell? ⟨b, o + 5, none⟩ = some (.bool x.ex)) : (Instr.loadAt 34 (.pointer (some ⟨b, o, none⟩))).run Try.prog w = .ok (V6 x) w := by
  have hS : Try.prog.underlying 34 = some (.struct (Try.prog.fieldsOf 34)) := by kernel_rfl
  have hz : (Try.prog.info? 34).map (·.size) = some 6 := by kernel_rfl
  have := run_loadAt_mid (P := Try.prog) w b o 34 (encL x) _ (fun j v hv => by
    have hj : j < 6 := by have := (List.getElem?_eq_some_iff.1 hv).1; exact this
    rcases (by omega : j = 0 ∨ j = 1 ∨ j = 2 ∨ j = 3 ∨ j = 4 ∨ j = 5) with rfl | rfl | rfl | rfl | rfl | rfl
    · exact c0.trans hv
    · exact c1.trans hv
    · exact c2.trans hv
    · exact c3.trans hv
    · exact c4.trans hv
    · exact c5.trans hv) hS rfl hz
  rw [show V6 x = Value.agg (encL x).toArray from rfl]
  simpa using this
set_option maxRecDepth 100000 in
set_option maxHeartbeats 4000000 in
theorem sameL_yes {w : World} {u v : Value} {xs : List L6} (hu : Lv w u xs) (hv : Lv w v xs) : Calls Try.prog 20 #[u, v] w fun e w' => e = .returned (.bool true) ∧ Below w.heap.size w w' := by
  have HU := Lib.hid hu
  have HV := Lib.hid hv
  obtain ⟨ao, cap, rfl, h1, h2, _, _⟩ := hu
  obtain ⟨ao', cap', rfl, h1', h2', _, _⟩ := hv
  unfold maxLen at h2 h2'
  obtain ⟨n, hn⟩ : ∃ n, xs.length = n := ⟨_, rfl⟩
  have HN := Lib.hid hn
  rw [hn] at h1 h1' ⊢
  clear hn
  have HB0 : Hid (Below w.heap.size w w) := Below.refl _ _
  go_enter Try.func20, Try.ntmps20
  go_wp2_with fail
  go_loopw [5] (fun iv wr => ∃ i : Nat, i ≤ n ∧ iv = .int .i64 (i : Int) ∧ Hid (Below w.heap.size w wr)) (fun iv _ => n - (intOf iv).toNat)
  case atStart => exact ⟨0, by omega, rfl, HB0⟩
  case round =>
    clear HB0
    obtain ⟨i, hi, rfl, HB⟩ := hrel
    by_cases hin : i < n
    · have ji : (i : Int) < (n : Int) := by omega
      have hix : i < xs.length := by rw [HN.out]; exact hin
      have hw1 : IntKind.i64.wrap ((i : Int) + 1) = ((i + 1 : Nat) : Int) := by rw [IntKind.wrap_i64]; omega
      obtain ⟨_, _, e', _, _, _, hc⟩ := HU.out.below HB.out
      simp only [Value.slice.injEq] at e'
      obtain ⟨rfl, e9, rfl⟩ := e'
      clear e9
      obtain ⟨b, of, rfl, c0, c1, c2, c3, c4, c5⟩ := hc i hix
      obtain ⟨_, _, e', _, _, _, hc'⟩ := HV.out.below HB.out
      simp only [Value.slice.injEq] at e'
      obtain ⟨rfl, e9, rfl⟩ := e'
      clear e9
      obtain ⟨b', of', rfl, d0, d1, d2, d3, d4, d5⟩ := hc' i hix
      clear hc hc'
      generalize xs[i] = x at *
      obtain ⟨T, hT⟩ : ∃ T, V6 x = T := ⟨_, rfl⟩
      have l1 : ∀ k, (Instr.loadAt 34 (.pointer (some ⟨b, of + i * 6, none⟩))).run Try.prog (wr.drewN k) = .ok T (wr.drewN k) := fun k => by
        rw [← hT]
        exact leaf_load (w := wr.drewN k) c0 c1 c2 c3 c4 c5
      have l2 : ∀ k, (Instr.loadAt 34 (.pointer (some ⟨b', of' + i * 6, none⟩))).run Try.prog (wr.drewN k) = .ok T (wr.drewN k) := fun k => by
        rw [← hT]
        exact leaf_load (w := wr.drewN k) d0 d1 d2 d3 d4 d5
      have HT := Lib.hid hT.symm
      clear hT c0 c1 c2 c3 c4 c5 d0 d1 d2 d3 d4 d5
      go_upto_region 6 with fail
      refine wp_region_quiet_lit (by kernel_rfl) (by kernel_rfl) ?_
      go_big_quiet_step (fail)
      go_big_quiet_step (fail)
      go_big_quiet_step (fail)
      go_big_quiet_want
      refine quiet_load_leaf (.tmp 19) rfl rfl (fun W hW => by obtain ⟨k, rfl⟩ := hW; exact l1 k) ?_
      intro a' ha'
      simp only [Act.put, List.setIfInBounds_toArray, List.set_cons_succ, List.set_cons_zero] at ha'
      subst ha'
      go_big_quiet_on
      go_big_quiet_step (fail)
      go_big_quiet_step (fail)
      go_big_quiet_step (fail)
      go_big_quiet_want
      refine quiet_load_leaf (.tmp 23) rfl rfl (fun W hW => by obtain ⟨k, rfl⟩ := hW; exact l2 k) ?_
      intro a' ha'
      simp only [Act.put, List.setIfInBounds_toArray, List.set_cons_succ, List.set_cons_zero] at ha'
      subst ha'
      go_big_quiet_on
      go_big_quiet_want
      refine quiet_neq_leaf (.tmp 20) (.tmp 24) rfl HT.out rfl rfl ?_
      intro a' ha'
      simp only [Act.put, List.setIfInBounds_toArray, List.set_cons_succ, List.set_cons_zero] at ha'
      subst ha'
      go_big_quiet_on
      refine wpQuiet_nil ?_
      intro W1 hw1'
      obtain ⟨nq, hw2'⟩ := hw1'
      subst hw2'
      all_goals
        have HB1 : Hid (Below w.heap.size w (wr.drewN nq)) := HB.out.trans ⟨rfl, rfl, rfl, Nat.le_refl _, fun _ _ => rfl⟩
        clear HB l1 l2
        generalize (wr.drewN nq) = W1 at *
        go_wp2_with fail
        go_roundw
        case rel => exact ⟨i + 1, by omega, rfl, HB1⟩
        case measure => simp [intOf]; omega
    · have ji : ¬ (i : Int) < (n : Int) := by omega
      go_wp2_with fail
      go_ret
      exact ⟨rfl, HB.out⟩
/-- how many pages rows have together -/
def sumN : List L6 → Nat
  | [] => 0
  | x :: xs => x.n.toNat + sumN xs
def FewP (n : Nat) (w : World) (e : Ending) (w' : World) : Prop := ∃ b : Bool, e = .returned (.bool b) ∧ (b = true → n ≤ 20000) ∧ Below w.heap.size w w'
set_option maxRecDepth 100000 in
set_option maxHeartbeats 4000000 in
theorem few_any {w : World} {v : Value} {xs : List L6} (h : Lv w v xs) (hz : ∀ x ∈ xs, 1 ≤ x.n ∧ x.n ≤ 134217728) : Calls Try.prog 6 #[v] w (FewP xs.length w) := by
  have HR := Lib.hid h
  obtain ⟨ao, cap, rfl, h1, h2, _, _⟩ := h
  unfold maxLen at h2
  obtain ⟨n, hn⟩ : ∃ n, xs.length = n := ⟨_, rfl⟩
  have HN := Lib.hid hn
  have HZ : Hid (∀ x ∈ xs, 1 ≤ x.n ∧ x.n ≤ 134217728) := hz
  rw [hn] at h1 ⊢
  clear hn hz
  have HB0 : Hid (Below w.heap.size w w) := Below.refl _ _
  go_enter Try.func6, Try.ntmps6
  go_wp2_with fail
  go_loopw [3, 4] (fun nv iv wr => ∃ (i : Nat) (s : Nat), i ≤ n ∧ iv = .int .i64 (i : Int) ∧ nv = .int .i64 (s : Int) ∧ s ≤ 135266304 ∧ Hid (Below w.heap.size w wr)) (fun _ iv _ => n - (intOf iv).toNat)
  case atStart => exact ⟨0, 0, by omega, rfl, rfl, by omega, HB0⟩
  case round =>
    clear HB0
    obtain ⟨i, s, hi, rfl, rfl, hs, HB⟩ := hrel
    by_cases hin : i < n
    · have ji : (i : Int) < (n : Int) := by omega
      have hix : i < xs.length := by rw [HN.out]; exact hin
      have hw1 : IntKind.i64.wrap ((i : Int) + 1) = ((i + 1 : Nat) : Int) := by rw [IntKind.wrap_i64]; omega
      by_cases hs2 : s ≤ 1048576
      · have js : (s : Int) ≤ 1048576 := by omega
        obtain ⟨_, _, e', _, _, _, hc⟩ := HR.out.below HB.out
        simp only [Value.slice.injEq] at e'
        obtain ⟨rfl, e9, rfl⟩ := e'
        clear e9
        obtain ⟨b, of, rfl, c0, c1, c2, c3, c4, c5⟩ := hc i hix
        have hzi := HZ.out xs[i] (List.getElem_mem _)
        clear hc
        generalize xs[i] = x at *
        obtain ⟨m, hm⟩ : ∃ m : Nat, x.n = (m : Int) := ⟨x.n.toNat, by omega⟩
        rw [hm] at c2 hzi
        clear c0 c1 c3 c4 c5 hm
        have hw2 : IntKind.i64.wrap ((s : Int) + (m : Int)) = ((s + m : Nat) : Int) := by rw [IntKind.wrap_i64]; omega
        go_wp2_with fail
        go_roundw
        case rel => exact ⟨i + 1, s + m, by omega, rfl, rfl, by omega, HB⟩
        case measure => simp [intOf]; omega
      · have js : ¬ (s : Int) ≤ 1048576 := by omega
        go_wp2_with fail
        go_ret
        exact ⟨_, rfl, (fun e => by simp at e), HB.out⟩
    · have ji : ¬ (i : Int) < (n : Int) := by omega
      by_cases hs2 : s ≤ 1048576
      · have js : (s : Int) ≤ 1048576 := by omega
        by_cases hl : n ≤ 20000
        · have jl : (n : Int) ≤ 20000 := by omega
          go_wp2_with fail
          go_ret
          exact ⟨_, rfl, (fun _ => hl), HB.out⟩
        · have jl : ¬ (n : Int) ≤ 20000 := by omega
          go_wp2_with fail
          go_ret
          exact ⟨_, rfl, (fun e => by simp at e), HB.out⟩
      · have js : ¬ (s : Int) ≤ 1048576 := by omega
        go_wp2_with fail
        go_ret
        exact ⟨_, rfl, (fun e => by simp at e), HB.out⟩
end Go.Proofs.Ytgjamnhepbblhaa
/- Books of leaves: Keep (written by parts/gen_bkt.py off BkB). Own work. -/
namespace Go.Proofs.Ytgjamnhepbblhaa
open Go.RowKit Wk
set_option linter.unusedVariables false
/-- a list of leaves that a book may hold -/
def SmL (xs : List L6) : Prop := xs.length ≤ 1048576 ∧ ∀ y ∈ xs, L6.ok y
theorem keeps_drew0 (w : World) : Keeps (fun _ => False) w w.drew := (Keeps.refl _ _).drew
def lenM : Option Value → Nat
  | some (.slice _ n _) => n
  | _ => 0
theorem sameL_any {u v : Value} {xs : List L6} {w : World} {b1 b2 : Nat} (hu : OwnL w b1 u xs) (hv : OwnL w b2 v xs) (hl : SmL xs) :
    Calls Try.prog 20 #[u, v] w fun e w' => e = .returned (.bool true) ∧ Below w.heap.size w w' := sameL_yes (hu.lv hl.2) (hv.lv hl.2)
structure EntL where
  lv : Value
  wv : Value
  xs : List L6
def EntL.bl (x : EntL) : List Nat := x.lv.ownBlock.toList ++ x.wv.ownBlock.toList
def blksL (E : List EntL) : List Nat := E.flatMap EntL.bl
structure EntL.ok (w : World) (base : Nat) (x : EntL) : Prop where
  l : OwnL w base x.lv x.xs
  w : OwnL w base x.wv x.xs
  sm : SmL x.xs
/-- a book: its block, its two rows, what they hold -/
structure BkL (w : World) (base kb : Nat) (lv wv : Value) (held : Int) (E : List EntL) : Prop where
  blk : w.heap[kb]? = some (.cells #[lv, wv, .int .i64 held, .bool false] 31 (0, 0))
  lrow : RowV w base 22 lv (E.map EntL.lv)
  wrow : RowV w base 22 wv (E.map EntL.wv)
  ne : ∀ k, lv.ownBlock = some k → wv.ownBlock ≠ some k
  ents : ∀ x ∈ E, x.ok w base
  nodup : (blksL E).Nodup
theorem info_bsL : (Try.prog.info? 22).map (fun i => (i.zero, i.size, i.bytes)) = some (some (.slice none 0 0), 1, 24) := by kernel_rfl
theorem BkL.cells {w : World} {base kb : Nat} {lv wv : Value} {held : Int} {E : List EntL} (h : BkL w base kb lv wv held E) : w.cell? ⟨kb, 0, none⟩ = some lv ∧ w.cell? ⟨kb, 1, none⟩ = some wv ∧ w.cell? ⟨kb, 2, none⟩ = some (.int .i64 held) ∧ w.cell? ⟨kb, 3, none⟩ = some (.bool false) := by
  refine ⟨?_, ?_, ?_, ?_⟩ <;> rw [cell_of_row _ _ _ _ _ _ h.blk] <;> rfl
theorem BkL.thawed {w : World} {base kb : Nat} {lv wv : Value} {held : Int} {E : List EntL} (h : BkL w base kb lv wv held E) (i : Nat) : w.frozen? ⟨kb, i, none⟩ = false := by simp [World.frozen?, h.blk]
theorem BkL.lt {w : World} {base kb : Nat} {lv wv : Value} {held : Int} {E : List EntL} (h : BkL w base kb lv wv held E) : kb < w.heap.size := (Array.getElem?_eq_some_iff.1 h.blk).1
/-- a copy of rows that are read -/
theorem run_copyLv {w : World} {l : Value} {xs : List L6} (ty : TypeId) (hl : Lv w l xs) (hlen : xs.length ≤ 1048576) :
    ∃ v' w', (Builtin.append_ #[22, 22] ty #[.slice none 0 0, l]).run Try.prog w = .ok v' w' ∧ OwnL w' w.heap.size v' xs ∧ w.grownBy w' none := by
  obtain ⟨i, hi, hz0, hz1, hz2⟩ := info_parts info_leaf
  obtain ⟨ao, cap, rfl, h1, h2, h3, h4⟩ := hl
  by_cases hp : 0 < xs.length
  · obtain ⟨b, of, rfl, _⟩ := h4 0 hp
    obtain ⟨v', w', r1, r2, r3, _⟩ := run_append_own_at (P := Try.prog) w w.heap.size 22 ty 34 i _ 6 _ Try.underlying22 hi hz0 hz1 hz2 rfl (by omega) (.slice none 0 0) 0 [] ⟨rfl, .inl ⟨rfl, rfl⟩⟩ ⟨b, of, none⟩ xs.length cap (encLs xs) (by rw [encLs_length]) (fun j u hj => by
      have hjl : j < xs.length * 6 := by have := (List.getElem?_eq_some_iff.1 hj).1; rw [encLs_length] at this; exact this
      obtain ⟨b', o', e, c0, c1, c2, c3, c4, c5⟩ := h4 (j / 6) (by omega)
      cases e
      rw [Addr.add_lit]
      have hj2 : j = j / 6 * 6 + j % 6 := by omega
      rw [hj2, encLs_get xs (j / 6) (j % 6) (by omega) (by omega)] at hj
      rcases (by omega : j % 6 = 0 ∨ j % 6 = 1 ∨ j % 6 = 2 ∨ j % 6 = 3 ∨ j % 6 = 4 ∨ j % 6 = 5) with e | e | e | e | e | e
      · rw [e] at hj
        rw [hj2, e, Nat.add_zero, c0]
        exact hj
      · rw [e] at hj
        rw [hj2, e, ← Nat.add_assoc, c1]
        exact hj
      · rw [e] at hj
        rw [hj2, e, ← Nat.add_assoc, c2]
        exact hj
      · rw [e] at hj
        rw [hj2, e, ← Nat.add_assoc, c3]
        exact hj
      · rw [e] at hj
        rw [hj2, e, ← Nat.add_assoc, c4]
        exact hj
      · rw [e] at hj
        rw [hj2, e, ← Nat.add_assoc, c5]
        exact hj) (fun u hu => by
      obtain ⟨t, _, hu⟩ := List.mem_flatMap.1 hu
      exact encL_one t u hu) (by unfold maxLen; omega) (by omega) (Nat.le_refl _)
    refine ⟨v', w', r1, ?_, r3⟩
    unfold OwnL
    simpa using r2
  · obtain rfl : xs = [] := List.eq_nil_of_length_eq_zero (by omega)
    refine ⟨.slice none 0 0, w, ?_, ⟨rfl, .inl ⟨rfl, rfl⟩⟩, ⟨rfl, rfl, rfl, Nat.le_refl _, fun _ _ _ => rfl⟩⟩
    cases ao with
    | none => simp [Builtin.append_, run_underlying Try.underlying22, sizeOf, typeInfo, hi, Builtin.lenOf, Builtin.firstCells]
    | some ad =>
      have hlc := run_loadCells_list (P := Try.prog) w ad [] (fun j v hj => by simp at hj)
      simp only [List.length_nil] at hlc
      simp [Builtin.append_, run_underlying Try.underlying22, sizeOf, typeInfo, hi, Builtin.lenOf, Builtin.firstCells, hlc]
/-- a copy of leaves -/
theorem run_copyL {w : World} {base : Nat} {l : Value} {xs : List L6} (ty : TypeId) (hl : OwnL w base l xs) (hlen : SmL xs) :
    ∃ v' w', (Builtin.append_ #[22, 22] ty #[.slice none 0 0, l]).run Try.prog w = .ok v' w' ∧ OwnL w' w.heap.size v' xs ∧ w.grownBy w' none := run_copyLv ty (hl.lv hlen.2) hlen.1
/-- what a book may write -/
def KeSL (base kb : Nat) (w : World) (k : Nat) : Prop := k = kb ∨ (base ≤ k ∧ ∃ cur, w.heap[k]? = some (.cells cur 22 (0, 0)))
def KeL (base kb : Nat) (w w' : World) : Prop := Keeps (KeSL base kb w) w w'
theorem KeL.refl (base kb : Nat) (w : World) : KeL base kb w w := Keeps.refl _ _
theorem KeL.trans {base kb : Nat} {a b c : World} (h : KeL base kb a b) (k : KeL base kb b c) : KeL base kb a c := by
  refine ⟨k.os.trans h.os, k.tape.trans h.tape, k.output.trans h.output, Nat.le_trans h.size k.size, fun i hi hn => ?_⟩
  have e := h.block i hi hn
  refine (k.block i (Nat.lt_of_lt_of_le hi h.size) (fun hs => hn ?_)).trans e
  rcases hs with hs | ⟨h1, cur, h2⟩
  · exact .inl hs
  · exact .inr ⟨h1, cur, e.symm.trans h2⟩
theorem KeL.of {base kb : Nat} {w w' : World} {S : Nat → Prop} (h : Keeps S w w') (hs : ∀ k, k < w.heap.size → S k → KeSL base kb w k) : KeL base kb w w' := h.mono hs
theorem KeL.alloc (base kb : Nat) (w : World) (o : Obj) : KeL base kb w (w.alloc o) := Keeps.alloc w o
theorem KeL.set (base kb : Nat) (w : World) (i : Nat) (v : Value) : KeL base kb w (w.setCell ⟨kb, i, none⟩ v) := (Keeps.setCell w kb i v).mono (fun _ _ e => .inl e)
theorem KeL.drew {base kb : Nat} {a b : World} (h : KeL base kb a b) : KeL base kb a b.drew := Keeps.drew h
theorem KeL.grown {base kb : Nat} {w w' : World} {v : Value} {vs : List Value} (hg : w.grownBy w' v.ownBlock) (hr : RowV w base 22 v vs) : KeL base kb w w' :=
  (Keeps.of_grown hg).mono (fun k _ e => .inr ⟨(hr.lt k e).1, hr.tag k e⟩)
theorem KeL.grown0 {base kb : Nat} {w w' : World} (hg : w.grownBy w' none) : KeL base kb w w' := (Keeps.of_grown hg).mono (fun _ _ e => by cases e)
/-- the book's block and rows -/
structure BwL (w : World) (base kb : Nat) (lv wv : Value) (held : Int) (Ls Ws : List Value) : Prop where
  blk : w.heap[kb]? = some (.cells #[lv, wv, .int .i64 held, .bool false] 31 (0, 0))
  lrow : RowV w base 22 lv Ls
  wrow : RowV w base 22 wv Ws
  ne : ∀ k, lv.ownBlock = some k → wv.ownBlock ≠ some k
theorem BwL.cells {w : World} {base kb : Nat} {lv wv : Value} {held : Int} {Ls Ws : List Value} (h : BwL w base kb lv wv held Ls Ws) : w.cell? ⟨kb, 0, none⟩ = some lv ∧ w.cell? ⟨kb, 1, none⟩ = some wv ∧ w.cell? ⟨kb, 2, none⟩ = some (.int .i64 held) ∧ w.cell? ⟨kb, 3, none⟩ = some (.bool false) := by
  refine ⟨?_, ?_, ?_, ?_⟩ <;> rw [cell_of_row _ _ _ _ _ _ h.blk] <;> rfl
theorem BwL.thawed {w : World} {base kb : Nat} {lv wv : Value} {held : Int} {Ls Ws : List Value} (h : BwL w base kb lv wv held Ls Ws) (i : Nat) : w.frozen? ⟨kb, i, none⟩ = false := by simp [World.frozen?, h.blk]
theorem BwL.lt {w : World} {base kb : Nat} {lv wv : Value} {held : Int} {Ls Ws : List Value} (h : BwL w base kb lv wv held Ls Ws) : kb < w.heap.size := (Array.getElem?_eq_some_iff.1 h.blk).1
theorem BwL.kb_ne {w : World} {base kb : Nat} {lv wv : Value} {held : Int} {Ls Ws : List Value} (h : BwL w base kb lv wv held Ls Ws) : lv.ownBlock ≠ some kb ∧ wv.ownBlock ≠ some kb := by
  refine ⟨fun e => ?_, fun e => ?_⟩
  · obtain ⟨c, hc⟩ := h.lrow.tag _ e
    rw [h.blk] at hc
    simp at hc
  · obtain ⟨c, hc⟩ := h.wrow.tag _ e
    rw [h.blk] at hc
    simp at hc
theorem BwL.keeps0 {w w' : World} {base kb : Nat} {lv wv : Value} {held : Int} {Ls Ws : List Value} (h : BwL w base kb lv wv held Ls Ws) (k : Keeps (fun _ => False) w w') : BwL w' base kb lv wv held Ls Ws :=
  ⟨(k.block kb h.lt id).trans h.blk, h.lrow.keeps k (fun _ _ => id), h.wrow.keeps k (fun _ _ => id), h.ne⟩
/-- a cell of the book's is written -/
theorem BwL.put {w : World} {base kb : Nat} {lv wv lv' wv' : Value} {held held' : Int} {Ls Ws Ls' Ws' : List Value} {i : Nat} {v : Value} (h : BwL w base kb lv wv held Ls Ws) (e : #[lv', wv', .int .i64 held', .bool false] = #[lv, wv, .int .i64 held, .bool false].setIfInBounds i v) (h1 : RowV w base 22 lv' Ls') (h2 : RowV w base 22 wv' Ws') (hn : ∀ k, lv'.ownBlock = some k → wv'.ownBlock ≠ some k) (hk : lv'.ownBlock ≠ some kb ∧ wv'.ownBlock ≠ some kb) : BwL (w.setCell ⟨kb, i, none⟩ v) base kb lv' wv' held' Ls' Ws' := by
  refine ⟨?_, h1.keeps (Keeps.setCell w kb i v) (fun k hk' e => hk.1 (by subst e; exact hk')), h2.keeps (Keeps.setCell w kb i v) (fun k hk' e => hk.2 (by subst e; exact hk')), hn⟩
  rw [e]
  simp [World.setCell, Array.getElem?_modify, h.blk]
theorem OwnL.tagB {w : World} {base : Nat} {v : Value} {xs : List L6} (h : OwnL w base v xs) : ∀ k, v.ownBlock = some k → ∃ cur, w.heap[k]? = some (.cells cur 34 (0, 0)) := by
  rcases h.2 with ⟨rfl, _⟩ | ⟨g, cap, cur, rfl, hb, hg, _⟩
  · intro k hk; cases hk
  · intro k hk
    cases hk
    exact ⟨cur, hg⟩
theorem OwnL.ke {w w' : World} {base base' kb : Nat} {v : Value} {xs : List L6} {cs : Array Value} (h : OwnL w base' v xs) (hb : w.heap[kb]? = some (.cells cs 31 (0, 0))) (k : KeL base kb w w') : OwnL w' base' v xs :=
  h.keeps k (fun i hi hs => by
    obtain ⟨c, hc⟩ := h.tagB i hi
    rcases hs with rfl | ⟨_, d, hd⟩
    · rw [hb] at hc; simp at hc
    · rw [hd] at hc; simp at hc)
theorem step_appVL {w : World} {base : Nat} {ops : Array Oper} {o : Oper} {a : Act} {K : Act → World → Prop} {Q : Exit → Act → World → Prop} {E : Prop} (hw : Region.wanted o (yielded ops a.tmps) = true) (s x : Operand)
    (ho : o.op = .call { callee := .builtin .append, args := #[s, x], argTypes := #[29, 29] }) {v : Value} {vs : List Value} {y : Value} {g cap : Nat} (hown : RowV w base 22 v vs) (hs : a.eval s = v) (hx : a.eval x = .slice (some ⟨g, 0, none⟩) 1 cap) (hc : w.cell? ⟨g, 0, none⟩ = some y) (h1 : y.oneCell' = true) (hb : vs.length ≤ 1048576) (hbase : base ≤ w.heap.size)
    (h : ∀ va vc w', RowV w' base 22 (.slice va (vs.length + 1) vc) (vs ++ [y]) → w.grownBy w' v.ownBlock → ((Value.slice va (vs.length + 1) vc).ownBlock = v.ownBlock ∨ ∃ k, (Value.slice va (vs.length + 1) vc).ownBlock = some k ∧ w.heap.size ≤ k) → K (a.put o.dst (.slice va (vs.length + 1) vc)) w') : if Region.wanted o (yielded ops a.tmps) = true then Oper.wp Try.prog o a w K Q else E := by
  rw [if_pos hw]
  obtain ⟨v', w', hr, h2, h3, h4⟩ := run_appV o.type Try.underlying29 info_bsL hown hc h1 hb hbase (cap := cap)
  obtain ⟨va, vc, rfl⟩ := h2.form
  rw [List.length_append, List.length_singleton] at hr h2 h4
  unfold Oper.wp execOp
  simp only [ho, resolve, invoke, builtin, Sem.run_bind, Sem.run_pure, Result.andThen_ok, List.map_toArray, List.map_cons, List.map_nil, hs, hx, hr]
  exact h va vc w' h2 h3 h4
theorem wpList_appVL {w : World} {base : Nat} {ops : Array Oper} {rest : List Oper} {o : Oper} {a : Act} {Q : Exit → Act → World → Prop} (hgd : o.guard = none) (s x : Operand)
    (ho : o.op = .call { callee := .builtin .append, args := #[s, x], argTypes := #[29, 29] }) {v : Value} {vs : List Value} {y : Value} {g cap : Nat} (hown : RowV w base 22 v vs) (hs : a.eval s = v) (hx : a.eval x = .slice (some ⟨g, 0, none⟩) 1 cap) (hc : w.cell? ⟨g, 0, none⟩ = some y) (h1 : y.oneCell' = true) (hb : vs.length ≤ 1048576) (hbase : base ≤ w.heap.size)
    (h : ∀ va vc w', RowV w' base 22 (.slice va (vs.length + 1) vc) (vs ++ [y]) → w.grownBy w' v.ownBlock → ((Value.slice va (vs.length + 1) vc).ownBlock = v.ownBlock ∨ ∃ k, (Value.slice va (vs.length + 1) vc).ownBlock = some k ∧ w.heap.size ≤ k) → wpList Try.prog ops Q rest (a.put o.dst (.slice va (vs.length + 1) vc)) w') : wpList Try.prog ops Q (o :: rest) a w :=
  wpList_plain hgd fun K hK => by
    have := step_appVL (ops := ops) (w := w) (o := o) (a := a) (K := K) (Q := Q) (E := False) (cap := cap) (by simp [Region.wanted, hgd]) s x ho hown hs hx hc h1 hb hbase (fun va vc w' h2 h3 h4 => hK _ _ (h va vc w' h2 h3 h4))
    rwa [if_pos (by simp [Region.wanted, hgd])] at this
theorem step_copyL {w : World} {base : Nat} {ops : Array Oper} {o : Oper} {a : Act} {K : Act → World → Prop} {Q : Exit → Act → World → Prop} {E : Prop} (hw : Region.wanted o (yielded ops a.tmps) = true) (x : Operand)
    (ho : o.op = .call { callee := .builtin .append, args := #[.const (.slice none 0 0), x], argTypes := #[22, 22] }) {l : Value} {xs : List L6} (hl : OwnL w base l xs) (hlen : SmL xs) (hx : a.eval x = l)
    (h : ∀ va vn vc w', OwnL w' w.heap.size (.slice va vn vc) xs → w.grownBy w' none → K (a.put o.dst (.slice va vn vc)) w') : if Region.wanted o (yielded ops a.tmps) = true then Oper.wp Try.prog o a w K Q else E := by
  rw [if_pos hw]
  obtain ⟨v', w', hr, h2, h3⟩ := run_copyL o.type hl hlen
  obtain ⟨va, vn, vc, rfl⟩ : ∃ va vn vc, v' = .slice va vn vc := by
    rcases h2.2 with ⟨rfl, _⟩ | ⟨g, cap, cur, rfl, _⟩
    · exact ⟨_, _, _, rfl⟩
    · exact ⟨_, _, _, rfl⟩
  have hc0 : a.eval (.const (.slice none 0 0)) = .slice none 0 0 := rfl
  unfold Oper.wp execOp
  simp only [ho, resolve, invoke, builtin, Sem.run_bind, Sem.run_pure, Result.andThen_ok, List.map_toArray, List.map_cons, List.map_nil, hc0, hx, hr]
  exact h va vn vc w' h2 h3
end Go.Proofs.Ytgjamnhepbblhaa
