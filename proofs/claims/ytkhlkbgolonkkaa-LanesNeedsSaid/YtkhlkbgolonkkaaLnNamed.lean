/- Lanes: needs of names of their own (the law's named). Own work. -/
import Derived.Test.YtkhlkbgolonkkaaLnRun
import Derived.Laws.OwnMore
import Derived.Laws.IdiomStrings
namespace Go.Proofs.Ytkhlkbgolonkkaa
open Go.RowKit
set_option linter.unusedVariables false
def encR (x : R4) : List Value := [.int .i64 x.k, .string x.s, .int .u64 (x.b : Int), .int .u64 (x.p : Int)]
def encRs (xs : List R4) : List Value := xs.flatMap encR
theorem encRs_length (xs : List R4) : (encRs xs).length = xs.length * 4 := by
  induction xs with
  | nil => rfl
  | cons x xs ih => simp only [encRs, List.flatMap_cons, List.length_append, List.length_cons] at ih ⊢; rw [ih]; simp only [encR, List.length_cons, List.length_nil]; omega
theorem encRs_append (xs ys : List R4) : encRs (xs ++ ys) = encRs xs ++ encRs ys := by simp [encRs]
theorem encR_one (t : R4) : ∀ u ∈ encR t, u.oneCell' = true := by
  intro u hu
  simp only [encR, List.mem_cons, List.not_mem_nil, or_false] at hu
  rcases hu with rfl | rfl | rfl | rfl <;> rfl
theorem encRs_get (xs : List R4) (j i : Nat) (h : j < xs.length) (hi : i < 4) : (encRs xs)[j * 4 + i]? = (encR xs[j])[i]? := by
  induction xs generalizing j with
  | nil => simp at h
  | cons x xs ih =>
    cases j with
    | zero =>
      rw [show encRs (x :: xs) = encR x ++ encRs xs from rfl, List.getElem?_append_left (by simp [encR]; omega)]
      simp
    | succ j =>
      have := ih j (by simpa using h)
      rw [show encRs (x :: xs) = encR x ++ encRs xs from rfl, List.getElem?_append_right (by simp [encR]; omega)]
      rw [show (j + 1) * 4 + i - (encR x).length = j * 4 + i by simp [encR]; omega, this]
      rfl
theorem info_run : (Try.prog.info? 30).map (fun i => (i.zero, i.size, i.bytes)) = some (some (.agg #[.int .i64 0, .string ⟨#[]⟩, .int .u64 0, .int .u64 0]), 4, 40) := by kernel_rfl
/-- a row of runs that is owned -/
def OwnR (w : World) (base : Nat) (v : Value) (xs : List R4) : Prop := w.ownsRow base 30 4 v xs.length (encRs xs)
theorem OwnR.nil (w : World) (base : Nat) : OwnR w base (.slice none 0 0) [] := ⟨rfl, .inl ⟨rfl, rfl⟩⟩
theorem OwnR.lt {w : World} {base : Nat} {v : Value} {xs : List R4} (h : OwnR w base v xs) : ∀ k, v.ownBlock = some k → base ≤ k ∧ k < w.heap.size := World.ownsRow.lt h
theorem OwnR.keeps {S : Nat → Prop} {w w' : World} {base : Nat} {v : Value} {xs : List R4} (h : OwnR w base v xs) (hk : Keeps S w w') (hn : ∀ k, v.ownBlock = some k → ¬ S k) : OwnR w' base v xs := by
  refine ⟨h.1, ?_⟩
  rcases h.2 with hv | ⟨g, cap, cur, rfl, hb, hgg, rest⟩
  · exact .inl hv
  · refine .inr ⟨g, cap, cur, rfl, hb, ?_, rest⟩
    rw [hk.block g (Array.getElem?_eq_some_iff.1 hgg).1 (hn g rfl)]
    exact hgg
theorem OwnR.below {w w' : World} {base : Nat} {v : Value} {xs : List R4} (h : OwnR w base v xs) (hb : Below w.heap.size w w') : OwnR w' base v xs := h.keeps (Keeps.of_below (S := fun _ => False) hb) (fun _ _ e => e)
theorem OwnR.form {w : World} {base : Nat} {v : Value} {xs : List R4} (h : OwnR w base v xs) : ∃ a c, v = .slice a xs.length c := by
  rcases h.2 with ⟨rfl, h0⟩ | ⟨g, cap, cur, rfl, _⟩
  · exact ⟨none, 0, by rw [h0]⟩
  · exact ⟨_, _, rfl⟩
theorem OwnR.rn {w : World} {base : Nat} {v : Value} {xs : List R4} (h : OwnR w base v xs) (hx : ∀ x ∈ xs, R4.ok x) : Rn w v xs := by
  have h' := h
  rcases h.2 with ⟨rfl, h0⟩ | ⟨g, cap, cur, rfl, hb, hg, h1, h2, hs, ht⟩
  · exact ⟨none, 0, by rw [h0], by omega, Nat.zero_le _, hx, fun i hi => by omega⟩
  · have hc : ∀ j i, j < xs.length → i < 4 → ∀ hj : j < xs.length, w.cell? ⟨g, j * 4 + i, none⟩ = (encR xs[j])[i]? := fun j i _ hi hj => by
      rw [World.ownsRow.cellAt h' (j * 4 + i) (by omega)]
      exact encRs_get xs j i hj hi
    refine ⟨_, cap, rfl, h1, h2, hx, fun i hi => ⟨g, 0, rfl, ?_, ?_, ?_, ?_⟩⟩
    · rw [Nat.zero_add]; exact hc i 0 hi (by omega) hi
    · rw [Nat.zero_add]; exact hc i 1 hi (by omega) hi
    · rw [Nat.zero_add]; exact hc i 2 hi (by omega) hi
    · rw [Nat.zero_add]; exact hc i 3 hi (by omega) hi
theorem wpList_appendR {w : World} {base : Nat} {ops : Array Oper} {rest : List Oper} {o : Oper} {a : Act} {Q : Exit → Act → World → Prop} (hgd : o.guard = none) (s x : Operand)
    (ho : o.op = .call { callee := .builtin .append, args := #[s, x], argTypes := #[23, 23] }) {v : Value} {xs : List R4} {t : R4} {g cap : Nat} (hown : OwnR w base v xs) (hs : a.eval s = v) (hx : a.eval x = .slice (some ⟨g, 0, none⟩) 1 cap) (hg : w.heap[g]? = some (.cells (encR t).toArray 30 (0, 0))) (hb : (xs.length + 1) * 40 ≤ 140737488355328) (hbase : base ≤ w.heap.size)
    (h : ∀ v' w', Hid (OwnR w' base v' (xs ++ [t])) → Hid (w.grownBy w' v.ownBlock) → Hid (v'.ownBlock = v.ownBlock ∨ v'.ownBlock = some w.heap.size) → wpList Try.prog ops Q rest (a.put o.dst v') w') : wpList Try.prog ops Q (o :: rest) a w :=
  wpList_plain hgd fun K hK => by
    obtain ⟨i, hi, hz0, hz1, hz2⟩ := info_parts info_run
    obtain ⟨v', w', r1, r2, r3, _, r5⟩ := run_append_own_at (P := Try.prog) w base 23 o.type 30 i (.agg #[.int .i64 0, .string ⟨#[]⟩, .int .u64 0, .int .u64 0]) 4 40 Try.underlying23 hi hz0 hz1 hz2 rfl (by omega) v xs.length (encRs xs) hown ⟨g, 0, none⟩ 1 cap (encR t) rfl (fun j u hj => by
      rw [Addr.add_lit, Nat.zero_add, cell_of_row _ _ _ _ _ _ hg, List.getElem?_toArray]
      exact hj) (encR_one t) (by unfold maxLen; omega) (by omega) hbase
    have h2 : OwnR w' base v' (xs ++ [t]) := by
      unfold OwnR
      rw [List.length_append, encRs_append, show encRs [t] = encR t from List.append_nil _]
      exact r2
    unfold Oper.wp execOp
    simp only [ho, resolve, invoke, builtin, Sem.run_bind, Sem.run_pure, Result.andThen_ok, List.map_toArray, List.map_cons, List.map_nil, hs, hx, r1]
    exact hK _ _ (h v' w' h2 r3 r5)
theorem conv3 {w : World} {g : Nat} {a b c : Nat} (ha : a < 256) (hb : b < 256) (hc : c < 256) (h : w.heap[g]? = some (.cells #[.int .u8 (a : Int), .int .u8 (b : Int), .int .u8 (c : Int)] 5 (0, 0))) : (convert 65 9 (.slice (some ⟨g, 0, none⟩) 3 3)).run Try.prog w = .ok (.string (mkS [a, b, c])) w := by
  have h1 := run_convert_bytes_back (P := Try.prog) w 65 9 5 ⟨g, 0, none⟩ 3 ([a, b, c].map UInt8.ofNat) Try.underlying65 Try.underlying5 Try.underlying9 (fun j hj => by
    rw [Addr.add_lit, Nat.zero_add, cell_of_row _ _ _ _ _ _ h]
    have hj' : j < 3 := by simpa using hj
    match j, hj' with
    | 0, _ => simp [UInt8.toNat_ofNat_of_lt' ha]
    | 1, _ => simp [UInt8.toNat_ofNat_of_lt' hb]
    | 2, _ => simp [UInt8.toNat_ofNat_of_lt' hc])
  exact h1
/-- the same needs, under other names -/
def Ren (xs ys : List R4) (n : Nat) : Prop := ys.length = n ∧ ∀ j (h : j < ys.length) (h' : j < xs.length), ys[j].k = xs[j].k ∧ ys[j].b = xs[j].b ∧ ys[j].p = xs[j].p ∧ ys[j].s.toList.isEmpty = false
/-- where named stands -/
structure Nm (w wr : World) (u : Value) (xs ys : List R4) (lane : Array Value) (n : Nat) : Prop where
  below : Below w.heap.size w wr
  lb : wr.heap[w.heap.size]? = some (.cells lane 25 (0, 0))
  mb : wr.heap[w.heap.size + 2]? = some (.cells #[.int .i64 0, .int .u64 0, .bool true, u] 25 (0, 0))
  rb : wr.heap[w.heap.size + 1]? = some (.cells #[.int .i64 0, .int .u64 0, .bool false, .slice none 0 0] 25 (0, 0))
  own : OwnR wr (w.heap.size + 3) u ys
  ren : Ren xs ys n
theorem ret_lane {W : World} {g : Nat} {a b c d : Value} {T : Array Value} (h2 : T[2]?.getD undef = .pointer (some ⟨g, 0, none⟩)) (c0 : W.cell? ⟨g, 0, none⟩ = some a) (c1 : W.cell? ⟨g, 1, none⟩ = some b) (c2 : W.cell? ⟨g, 2, none⟩ = some c) (c3 : W.cell? ⟨g, 3, none⟩ = some d) : (results Try.f9 T).run Try.prog W = .ok (.agg #[a, b, c, d]) W := by
  simp [results, Try.results9, go_sem, h2, c0, c1, c2, c3]
theorem Nm.next {w wr W2 w2 : World} {u v2 : Value} {xs ys : List R4} {lane : Array Value} {i : Nat} {t : R4} (h : Nm w wr u xs ys lane i) (kW : Keeps (fun _ => False) wr W2) (ho : OwnR w2 (w.heap.size + 3) v2 (ys ++ [t])) (hg : W2.grownBy w2 u.ownBlock) (hl : v2.ownBlock = u.ownBlock ∨ v2.ownBlock = some W2.heap.size) (ht : ∀ h' : i < xs.length, t.k = xs[i].k ∧ t.b = xs[i].b ∧ t.p = xs[i].p ∧ t.s.toList.isEmpty = false) : Nm w (w2.setCell ⟨w.heap.size + 1 + 1, 3, none⟩ v2) v2 xs (ys ++ [t]) lane (i + 1) ∧ w2.cell? ⟨w.heap.size + 1 + 1, 3, none⟩ = some u ∧ w2.frozen? ⟨w.heap.size + 1 + 1, 3, none⟩ = false := by
  have hkm := (Array.getElem?_eq_some_iff.1 h.mb).1
  have hkl := (Array.getElem?_eq_some_iff.1 h.lb).1
  have hu : ∀ k, u.ownBlock = some k → w.heap.size + 3 ≤ k := fun k e => (h.own.lt k e).1
  have hm2 : w2.heap[w.heap.size + 2]? = some (.cells #[.int .i64 0, .int .u64 0, .bool true, u] 25 (0, 0)) := by
    rw [hg.block _ (Nat.lt_of_lt_of_le hkm kW.size) (fun e => by have := hu _ e.symm; omega), kW.block _ hkm id]
    exact h.mb
  have hl2 : w2.heap[w.heap.size]? = some (.cells lane 25 (0, 0)) := by
    rw [hg.block _ (Nat.lt_of_lt_of_le hkl kW.size) (fun e => by have := hu _ e.symm; omega), kW.block _ hkl id]
    exact h.lb
  have hr2 : w2.heap[w.heap.size + 1]? = some (.cells #[.int .i64 0, .int .u64 0, .bool false, .slice none 0 0] 25 (0, 0)) := by
    have hkr := (Array.getElem?_eq_some_iff.1 h.rb).1
    rw [hg.block _ (Nat.lt_of_lt_of_le hkr kW.size) (fun e => by have := hu _ e.symm; omega), kW.block _ hkr id]
    exact h.rb
  have hv : ∀ k, v2.ownBlock = some k → w.heap.size + 3 ≤ k := fun k e => (ho.lt k e).1
  refine ⟨⟨?_, ?_, ?_, ?_, ho.keeps (Keeps.setCell w2 (w.heap.size + 1 + 1) 3 v2) (fun k hk e => by have := hv k hk; omega), ?_, fun j hj hj' => ?_⟩, by rw [cell_of_row _ _ _ _ _ _ hm2]; rfl, by simp [World.frozen?, hm2]⟩
  · exact ((h.below.trans (kW.below h.below.size (fun _ _ e => e.elim))).grown hg (Nat.le_trans h.below.size kW.size) (fun k hk => by have := hu k hk; omega)).setCell (by show w.heap.size ≤ w.heap.size + 1 + 1; omega) _
  · rw [Below.heap_setCell _ _ _ _ (by show w.heap.size ≠ w.heap.size + 1 + 1; omega)]
    exact hl2
  · simp [World.setCell, Array.getElem?_modify, hm2]
  · rw [Below.heap_setCell _ _ _ _ (by show w.heap.size + 1 ≠ w.heap.size + 1 + 1; omega)]
    exact hr2
  · rw [List.length_append, List.length_singleton, h.ren.1]
  · have hi := h.ren.1
    by_cases hji : j < ys.length
    · rw [List.getElem_append_left hji]
      exact h.ren.2 j hji hj'
    · have hje : j = i := by simp at hj; omega
      subst hje
      rw [List.getElem_append_right (by omega)]
      simp only [hi, Nat.sub_self, List.getElem_singleton]
      exact ht hj'
set_option maxRecDepth 100000 in
set_option maxHeartbeats 4000000 in
theorem named_any {w : World} {v : Value} {xs : List R4} {q cp : Int} {nd : Bool} (h : Rn w v xs) (hl : xs.length ≤ 3518437208780) : Calls Try.prog 9 #[.agg #[.int .i64 q, .int .u64 cp, .bool nd, v]] w fun e w' => ∃ u, e = .returned (.agg #[.int .i64 0, .int .u64 0, .bool true, u]) ∧ ∃ ys, Rn w' u ys ∧ Ren xs ys xs.length ∧ (∀ k, u.ownBlock = some k → w.heap.size ≤ k) ∧ Below w.heap.size w w' := by
  have HR := Lib.hid h
  obtain ⟨ao, cap, rfl, h1, h2, h3, h4⟩ := h
  have HX : Hid (∀ x ∈ xs, R4.ok x) := h3
  clear h3 h4
  unfold maxLen at h2
  obtain ⟨n, hn⟩ : ∃ n, xs.length = n := ⟨_, rfl⟩
  have HN := Lib.hid hn
  rw [hn] at h1 hl ⊢
  have HM0 : Hid (Nm w (((w.alloc (.cells #[.int .i64 q, .int .u64 cp, .bool nd, .slice ao n cap] 25)).alloc (.cells #[.int .i64 0, .int .u64 0, .bool false, .slice none 0 0] 25)).alloc (.cells #[.int .i64 0, .int .u64 0, .bool true, .slice none 0 0] 25)) (.slice none 0 0) xs [] #[.int .i64 q, .int .u64 cp, .bool nd, .slice ao n cap] 0) := by
    refine ⟨(((Below.refl _ _).alloc (Nat.le_refl _) _).alloc (by simp) _).alloc (by simp; omega) _, ?_, ?_, ?_, OwnR.nil _ _, rfl, fun j h => by simp at h⟩
    · rw [Below.heap_alloc _ _ _ (by simp; omega), Below.heap_alloc _ _ _ (by simp)]
      exact Array.getElem?_push_size (xs := w.heap)
    · have es : ((w.alloc (.cells #[.int .i64 q, .int .u64 cp, .bool nd, .slice ao n cap] 25)).alloc (.cells #[.int .i64 0, .int .u64 0, .bool false, .slice none 0 0] 25)).heap.size = w.heap.size + 2 := by simp
      rw [← es]
      exact Array.getElem?_push_size (xs := ((w.alloc (.cells #[.int .i64 q, .int .u64 cp, .bool nd, .slice ao n cap] 25)).alloc (.cells #[.int .i64 0, .int .u64 0, .bool false, .slice none 0 0] 25)).heap)
    · have es : (w.alloc (.cells #[.int .i64 q, .int .u64 cp, .bool nd, .slice ao n cap] 25)).heap.size = w.heap.size + 1 := by simp
      rw [Below.heap_alloc _ _ _ (by simp), ← es]
      exact Array.getElem?_push_size (xs := (w.alloc (.cells #[.int .i64 q, .int .u64 cp, .bool nd, .slice ao n cap] 25)).heap)
  clear hn
  go_enter Try.func9, Try.ntmps9
  go_wp2_with fail
  go_loopw [4] (fun iv wr => ∃ i : Nat, i ≤ n ∧ iv = .int .i64 (i : Int) ∧ ∃ u ys, Hid (Nm w wr u xs ys #[.int .i64 q, .int .u64 cp, .bool nd, .slice ao n cap] i)) (fun iv _ => n - (intOf iv).toNat)
  case atStart => exact ⟨0, by omega, rfl, _, _, HM0⟩
  case round =>
    clear HM0
    obtain ⟨i, hi, rfl, u, ys, HM⟩ := hrel
    have y3 : wr.cell? ⟨w.heap.size, 3, none⟩ = some (.slice ao n cap) := by rw [cell_of_row _ _ _ _ _ _ HM.out.lb]; rfl
    have z3 : wr.cell? ⟨w.heap.size + 1 + 1, 3, none⟩ = some u := by rw [cell_of_row _ _ _ _ _ _ HM.out.mb]; rfl
    by_cases hin : i < n
    · have hix : i < xs.length := by rw [HN.out]; exact hin
      have ji : (i : Int) < (n : Int) := by omega
      have jc : (n : Int) ≤ (cap : Int) := by omega
      have hw1 : IntKind.i64.wrap ((i : Int) + 1) = ((i + 1 : Nat) : Int) := by rw [IntKind.wrap_i64]; omega
      obtain ⟨_, _, e', _, _, _, hc⟩ := HR.out.below HM.out.below
      simp only [Value.slice.injEq] at e'
      obtain ⟨rfl, _, rfl⟩ := e'
      obtain ⟨b, of, rfl, c0, c1, c2, c3⟩ := hc i hix
      clear hc
      have HOk : Hid (R4.ok xs[i]) := HX.out _ (List.getElem_mem _)
      obtain ⟨x, hxx⟩ : ∃ x, xs[i] = x := ⟨_, rfl⟩
      have HXX := Lib.hid hxx
      rw [hxx] at c0 c1 c2 c3 HOk
      clear hxx
      obtain ⟨a, ha⟩ : ∃ a, i % 26 = a := ⟨_, rfl⟩
      have t1 : (i : Int).tmod 26 = (a : Int) := by rw [← ha]; rfl
      have t2 : (i : Int).tdiv 26 = ((i / 26 : Nat) : Int) := rfl
      have t4 : (i : Int).tdiv 676 = ((i / 676 : Nat) : Int) := rfl
      have e2 : (97 : Int) + (i : Int) / 26 % 26 = ((97 + i / 26 % 26 : Nat) : Int) := by omega
      have e3 : (97 : Int) + (i : Int) / 676 % 26 = ((97 + i / 676 % 26 : Nat) : Int) := by omega
      have hcv : (convert 65 9 (.slice (some ⟨wr.heap.size + 1, 0, none⟩) 3 3)).run Try.prog ((wr.alloc (.cells #[.int .i64 x.k, .string x.s, .int .u64 (x.b : Int), .int .u64 (x.p : Int)] 30)).alloc (.cells #[.int .u8 (97 + (a : Int)), .int .u8 (97 + (i : Int) / 26 % 26), .int .u8 (97 + (i : Int) / 676 % 26)] 5)) = .ok (.string (mkS [97 + a, 97 + i / 26 % 26, 97 + i / 676 % 26])) ((wr.alloc (.cells #[.int .i64 x.k, .string x.s, .int .u64 (x.b : Int), .int .u64 (x.p : Int)] 30)).alloc (.cells #[.int .u8 (97 + (a : Int)), .int .u8 (97 + (i : Int) / 26 % 26), .int .u8 (97 + (i : Int) / 676 % 26)] 5)) := by
        refine conv3 (by omega) (by omega) (by omega) ?_
        rw [← e2, ← e3, show ((97 + a : Nat) : Int) = 97 + (a : Int) by omega]
        have es : (wr.alloc (.cells #[.int .i64 x.k, .string x.s, .int .u64 (x.b : Int), .int .u64 (x.p : Int)] 30)).heap.size = wr.heap.size + 1 := by simp
        rw [← es]
        exact Array.getElem?_push_size (xs := (wr.alloc (.cells #[.int .i64 x.k, .string x.s, .int .u64 (x.b : Int), .int .u64 (x.p : Int)] 30)).heap)
      have hal : a < 26 := by omega
      clear ha e2 e3
      obtain ⟨sS, hsS⟩ : ∃ sS, mkS [97 + a, 97 + i / 26 % 26, 97 + i / 676 % 26] = sS := ⟨_, rfl⟩
      rw [hsS] at hcv
      have hsz : sS.size = 3 := by rw [← hsS, mkS_size]; rfl
      clear hsS
      obtain ⟨ua, uc, hu⟩ : ∃ ua uc, u = .slice ua ys.length uc := by
        rcases HM.out.own.2 with ⟨hv, h0⟩ | ⟨g, cap', cur, hv, _⟩
        · exact ⟨none, 0, by rw [hv, h0]⟩
        · exact ⟨_, _, hv⟩
      have hyl : ys.length = i := HM.out.ren.1
      rw [hyl] at hu
      subst hu
      have k1 : w.heap.size + 1 + 1 < wr.heap.size := (Array.getElem?_eq_some_iff.1 HM.out.mb).1
      have k2 : w.heap.size + 1 + 1 ≠ wr.heap.size := by omega
      have k3 : w.heap.size + 1 + 1 ≠ wr.heap.size + 1 := by omega
      have k4 : w.heap.size + 1 + 1 ≠ wr.heap.size + 1 + 1 := by omega
      have HKW : Hid (Keeps (fun _ => False) wr (((wr.alloc (.cells #[.int .i64 x.k, .string (⟨#[110]⟩ ++ sS), .int .u64 (x.b : Int), .int .u64 (x.p : Int)] 30)).alloc (.cells #[.int .u8 (97 + (a : Int)), .int .u8 (97 + (i : Int) / 26 % 26), .int .u8 (97 + (i : Int) / 676 % 26)] 5)).alloc (.cells #[.int .i64 x.k, .string (⟨#[110]⟩ ++ sS), .int .u64 (x.b : Int), .int .u64 (x.p : Int)] 30))) := ((Keeps.alloc wr _).trans (Keeps.alloc _ _) (fun _ _ e => e)).trans (Keeps.alloc _ _) (fun _ _ e => e)
      have HOA : Hid (OwnR (((wr.alloc (.cells #[.int .i64 x.k, .string (⟨#[110]⟩ ++ sS), .int .u64 (x.b : Int), .int .u64 (x.p : Int)] 30)).alloc (.cells #[.int .u8 (97 + (a : Int)), .int .u8 (97 + (i : Int) / 26 % 26), .int .u8 (97 + (i : Int) / 676 % 26)] 5)).alloc (.cells #[.int .i64 x.k, .string (⟨#[110]⟩ ++ sS), .int .u64 (x.b : Int), .int .u64 (x.p : Int)] 30)) (w.heap.size + 3) (.slice ua i uc) ys) := HM.out.own.keeps HKW.out (fun _ _ e => e)
      have HB4 : Hid ((((wr.alloc (.cells #[.int .i64 x.k, .string (⟨#[110]⟩ ++ sS), .int .u64 (x.b : Int), .int .u64 (x.p : Int)] 30)).alloc (.cells #[.int .u8 (97 + (a : Int)), .int .u8 (97 + (i : Int) / 26 % 26), .int .u8 (97 + (i : Int) / 676 % 26)] 5)).alloc (.cells #[.int .i64 x.k, .string (⟨#[110]⟩ ++ sS), .int .u64 (x.b : Int), .int .u64 (x.p : Int)] 30)).heap[wr.heap.size + 1 + 1]? = some (.cells (encR ⟨x.k, ⟨#[110]⟩ ++ sS, x.b, x.p⟩).toArray 30 (0, 0))) := by
        have es : ((wr.alloc (.cells #[.int .i64 x.k, .string (⟨#[110]⟩ ++ sS), .int .u64 (x.b : Int), .int .u64 (x.p : Int)] 30)).alloc (.cells #[.int .u8 (97 + (a : Int)), .int .u8 (97 + (i : Int) / 26 % 26), .int .u8 (97 + (i : Int) / 676 % 26)] 5)).heap.size = wr.heap.size + 1 + 1 := by simp
        show _ = _
        rw [← es]
        exact Array.getElem?_push_size (xs := ((wr.alloc (.cells #[.int .i64 x.k, .string (⟨#[110]⟩ ++ sS), .int .u64 (x.b : Int), .int .u64 (x.p : Int)] 30)).alloc (.cells #[.int .u8 (97 + (a : Int)), .int .u8 (97 + (i : Int) / 26 % 26), .int .u8 (97 + (i : Int) / 676 % 26)] 5)).heap)
      have HNx : Hid (∀ v2 w2, OwnR w2 (w.heap.size + 3) v2 (ys ++ [⟨x.k, ⟨#[110]⟩ ++ sS, x.b, x.p⟩]) → (((wr.alloc (.cells #[.int .i64 x.k, .string (⟨#[110]⟩ ++ sS), .int .u64 (x.b : Int), .int .u64 (x.p : Int)] 30)).alloc (.cells #[.int .u8 (97 + (a : Int)), .int .u8 (97 + (i : Int) / 26 % 26), .int .u8 (97 + (i : Int) / 676 % 26)] 5)).alloc (.cells #[.int .i64 x.k, .string (⟨#[110]⟩ ++ sS), .int .u64 (x.b : Int), .int .u64 (x.p : Int)] 30)).grownBy w2 (Value.slice ua i uc).ownBlock → (v2.ownBlock = (Value.slice ua i uc).ownBlock ∨ v2.ownBlock = some (((wr.alloc (.cells #[.int .i64 x.k, .string (⟨#[110]⟩ ++ sS), .int .u64 (x.b : Int), .int .u64 (x.p : Int)] 30)).alloc (.cells #[.int .u8 (97 + (a : Int)), .int .u8 (97 + (i : Int) / 26 % 26), .int .u8 (97 + (i : Int) / 676 % 26)] 5)).alloc (.cells #[.int .i64 x.k, .string (⟨#[110]⟩ ++ sS), .int .u64 (x.b : Int), .int .u64 (x.p : Int)] 30)).heap.size) → Nm w (w2.setCell ⟨w.heap.size + 1 + 1, 3, none⟩ v2) v2 xs (ys ++ [⟨x.k, ⟨#[110]⟩ ++ sS, x.b, x.p⟩]) #[.int .i64 q, .int .u64 cp, .bool nd, .slice (some ⟨b, of, none⟩) n cap] (i + 1) ∧ w2.cell? ⟨w.heap.size + 1 + 1, 3, none⟩ = some (.slice ua i uc) ∧ w2.frozen? ⟨w.heap.size + 1 + 1, 3, none⟩ = false) := fun v2 w2 h1 h2 h3 =>
        HM.out.next HKW.out h1 h2 h3 (fun h' => ⟨by rw [HXX.out], by rw [HXX.out], by rw [HXX.out], by rw [ByteArray.toList_eq]; simp⟩)
      have HLy : Hid ((ys.length + 1) * 40 ≤ 140737488355328) := by show _ ≤ _; rw [hyl]; omega
      have HBs : Hid (w.heap.size + 3 ≤ wr.heap.size) := by show _ ≤ _; omega
      have z4 : ((wr.alloc (.cells #[.int .i64 x.k, .string (⟨#[110]⟩ ++ sS), .int .u64 (x.b : Int), .int .u64 (x.p : Int)] 30)).alloc (.cells #[.int .u8 (97 + (a : Int)), .int .u8 (97 + (i : Int) / 26 % 26), .int .u8 (97 + (i : Int) / 676 % 26)] 5)).cell? ⟨w.heap.size + 1 + 1, 3, none⟩ = some (.slice ua i uc) := by
        have hk : Keeps (fun _ => False) wr ((wr.alloc (.cells #[.int .i64 x.k, .string (⟨#[110]⟩ ++ sS), .int .u64 (x.b : Int), .int .u64 (x.p : Int)] 30)).alloc (.cells #[.int .u8 (97 + (a : Int)), .int .u8 (97 + (i : Int) / 26 % 26), .int .u8 (97 + (i : Int) / 676 % 26)] 5)) := (Keeps.alloc wr _).trans (Keeps.alloc _ _) (fun _ _ e => e)
        rw [World.cell?_of_block (w := wr) (a := ⟨w.heap.size + 1 + 1, 3, none⟩) (hk.block _ k1 id)]
        exact z3
      clear hyl
      go_wp2_with (at_builtin; refine wpList_appendR rfl (.tmp 38) (.tmp 40) rfl HOA.out rfl rfl HB4.out HLy.out (Nat.le_trans HBs.out (by simp; omega)) ?_; intro v2 w2 HO2 HG2 HL2; obtain ⟨va2, vc2, hv2⟩ := HO2.out.form; subst hv2; obtain ⟨hn2, hc2, hf2⟩ := HNx.out _ _ HO2.out HG2.out HL2.out; have HN2 := Lib.hid hn2; clear hn2 HO2 HG2 HL2 HNx HB4 HOA)
      have h8 := HN2.out
      rw [List.length_append, List.length_singleton] at h8
      have HN3 := Lib.hid h8
      clear h8 HN2
      go_roundw
      case rel => exact ⟨i + 1, by omega, rfl, _, _, HN3⟩
      case measure => simp [intOf]; omega
    · obtain rfl : i = n := by omega
      have ji : ¬ (i : Int) < (i : Int) := by omega
      have HOk : Hid (∀ y ∈ ys, R4.ok y) := by
        intro y hy
        obtain ⟨j, hj, e⟩ := List.mem_iff_getElem.1 hy
        have hr := HM.out.ren
        have hjx : j < xs.length := by rw [HN.out, ← hr.1]; exact hj
        have h5 := hr.2 j hj hjx
        have h6 := HX.out _ (List.getElem_mem hjx)
        rw [← e]
        unfold R4.ok at h6 ⊢
        rw [h5.2.1, h5.2.2.1]
        exact h6
      have q0 : wr.cell? ⟨w.heap.size + 1 + 1, 0, none⟩ = some (.int .i64 0) := by rw [cell_of_row _ _ _ _ _ _ HM.out.mb]; rfl
      have q1 : wr.cell? ⟨w.heap.size + 1 + 1, 1, none⟩ = some (.int .u64 0) := by rw [cell_of_row _ _ _ _ _ _ HM.out.mb]; rfl
      have q2 : wr.cell? ⟨w.heap.size + 1 + 1, 2, none⟩ = some (.bool true) := by rw [cell_of_row _ _ _ _ _ _ HM.out.mb]; rfl
      have p0 : wr.cell? ⟨w.heap.size + 1, 0, none⟩ = some (.int .i64 0) := by rw [cell_of_row _ _ _ _ _ _ HM.out.rb]; rfl
      have p1 : wr.cell? ⟨w.heap.size + 1, 1, none⟩ = some (.int .u64 0) := by rw [cell_of_row _ _ _ _ _ _ HM.out.rb]; rfl
      have p2 : wr.cell? ⟨w.heap.size + 1, 2, none⟩ = some (.bool false) := by rw [cell_of_row _ _ _ _ _ _ HM.out.rb]; rfl
      have p3 : wr.cell? ⟨w.heap.size + 1, 3, none⟩ = some (.slice none 0 0) := by rw [cell_of_row _ _ _ _ _ _ HM.out.rb]; rfl
      have f0 : wr.frozen? ⟨w.heap.size + 1, 0, none⟩ = false := by simp [World.frozen?, HM.out.rb]
      have f1 : wr.frozen? ⟨w.heap.size + 1, 1, none⟩ = false := by simp [World.frozen?, HM.out.rb]
      have f2 : wr.frozen? ⟨w.heap.size + 1, 2, none⟩ = false := by simp [World.frozen?, HM.out.rb]
      have f3 : wr.frozen? ⟨w.heap.size + 1, 3, none⟩ = false := by simp [World.frozen?, HM.out.rb]
      obtain ⟨ua, uc, hu⟩ := HM.out.own.form
      subst hu
      go_wp2_with fail
      generalize hW : ((((wr.setCell ⟨w.heap.size + 1, 0, none⟩ (.int .i64 0)).setCell ⟨w.heap.size + 1, 1, none⟩ (.int .u64 0)).setCell ⟨w.heap.size + 1, 2, none⟩ (.bool true)).setCell ⟨w.heap.size + 1, 3, none⟩ (.slice ua ys.length uc)) = W9
      have hb9 : W9.heap[w.heap.size + 1]? = some (.cells #[.int .i64 0, .int .u64 0, .bool true, .slice ua ys.length uc] 25 (0, 0)) := by
        rw [← hW]
        simp [World.setCell, Array.getElem?_modify, HM.out.rb]
      have hk9 : Keeps (fun k => k = w.heap.size + 1) wr W9 := by
        rw [← hW]
        exact (((Keeps.setCell _ _ _ _).trans (Keeps.setCell _ _ _ _) (fun _ _ e => e)).trans (Keeps.setCell _ _ _ _) (fun _ _ e => e)).trans (Keeps.setCell _ _ _ _) (fun _ _ e => e)
      have ho9 : OwnR W9 (w.heap.size + 3) (.slice ua ys.length uc) ys := HM.out.own.keeps hk9 (fun k hk e => by have := (HM.out.own.lt k hk).1; omega)
      have hbl9 : Below w.heap.size w W9 := HM.out.below.trans (hk9.below HM.out.below.size (fun k _ e => by omega))
      refine bodyPost_ret (v := .agg #[.int .i64 0, .int .u64 0, .bool true, .slice ua ys.length uc]) (ret_lane (g := w.heap.size + 1) rfl (by rw [cell_of_row _ _ _ _ _ _ hb9]; rfl) (by rw [cell_of_row _ _ _ _ _ _ hb9]; rfl) (by rw [cell_of_row _ _ _ _ _ _ hb9]; rfl) (by rw [cell_of_row _ _ _ _ _ _ hb9]; rfl)) rfl ?_
      exact ⟨_, rfl, ys, ho9.rn HOk.out, HM.out.ren, (fun k hk => by have := (ho9.lt k hk).1; omega), hbl9⟩
end Go.Proofs.Ytkhlkbgolonkkaa
