import Derived.Test.YtfnikcjcgneboaaGreatPk27
import Derived.Test.YtfnikcjcgneboaaGreatPk12
import Derived.Deep.RegionLaw
/- The document's own machine with pages: what its Store keeps. Own work. -/
namespace Go.Proofs.YtfnikcjcgneboaaGreat
open Go.RowKit Go.Maps Go.Proofs.YtfnikcjcgneboaaGreat.Sp Wk
/-- a row of bytes of which only that is known -/
def U8 (w : World) (g n : Nat) : Prop := ∃ cur : Array Value, w.heap[g]? = some (.cells cur 5 (0, 0)) ∧ ∀ i, i < n → ∃ z : Nat, z < 256 ∧ cur[i]? = some (.int .u8 (z : Int))
theorem U8.lt {w : World} {g n : Nat} (h : U8 w g n) : g < w.heap.size := by obtain ⟨_, h, _⟩ := h; exact (Array.getElem?_eq_some_iff.1 h).1
theorem U8.cell {w : World} {g n : Nat} (h : U8 w g n) (i : Nat) (hi : i < n) : ∃ z : Nat, z < 256 ∧ w.cell? ⟨g, i, none⟩ = some (.int .u8 (z : Int)) := by
  obtain ⟨cur, h0, h1⟩ := h
  obtain ⟨z, h2, h3⟩ := h1 i hi
  exact ⟨z, h2, by rw [cell_of_row _ _ _ _ _ _ h0]; exact h3⟩
theorem U8.thawed {w : World} {g n : Nat} (h : U8 w g n) (i : Nat) : w.frozen? ⟨g, i, none⟩ = false := by
  obtain ⟨cur, h0, h1⟩ := h
  simp [World.frozen?, h0]
theorem U8.keeps {Z : Nat → Prop} {w w' : World} {g n : Nat} (h : U8 w g n) (hk : Keeps Z w w') (hn : ¬ Z g) : U8 w' g n := by
  obtain ⟨cur, h0, h1⟩ := id h
  exact ⟨cur, (hk.block g h.lt hn).trans h0, h1⟩
theorem U8.set {w : World} {g n : Nat} (h : U8 w g n) (g' o z : Nat) (hz : z < 256) : U8 (w.setCell ⟨g', o, none⟩ (.int .u8 (z : Int))) g n := by
  by_cases e : g = g'
  · subst e
    obtain ⟨cur, h0, h1⟩ := h
    refine ⟨cur.setIfInBounds o (.int .u8 (z : Int)), by simp [World.setCell, Array.getElem?_modify, h0], fun i hi => ?_⟩
    obtain ⟨y, h2, h3⟩ := h1 i hi
    by_cases eo : o = i
    · subst eo
      refine ⟨z, hz, ?_⟩
      rw [Array.getElem?_setIfInBounds]
      have := (Array.getElem?_eq_some_iff.1 h3).1
      simp [this]
    · exact ⟨y, h2, by rw [Array.getElem?_setIfInBounds, if_neg eo]; exact h3⟩
  · exact h.keeps (Keeps.setCell w g' o _) e
def encP (x : Int × Nat) : List Value := [.int .u64 x.1, .slice (some ⟨x.2, 0, none⟩) 4096 4096]
def encPs (xs : List (Int × Nat)) : List Value := xs.flatMap encP
theorem encPs_length (xs : List (Int × Nat)) : (encPs xs).length = xs.length * 2 := by
  induction xs with
  | nil => rfl
  | cons x xs ih => simp only [encPs, List.flatMap_cons, List.length_append, List.length_cons] at ih ⊢; rw [ih]; simp only [encP, List.length_cons, List.length_nil]; omega
theorem encPs_append (xs ys : List (Int × Nat)) : encPs (xs ++ ys) = encPs xs ++ encPs ys := by simp [encPs]
theorem encPs_one (xs : List (Int × Nat)) : ∀ u ∈ encPs xs, u.oneCell' = true := by
  intro u hu
  obtain ⟨x, _, h⟩ := List.mem_flatMap.1 hu
  simp only [encP, List.mem_cons, List.not_mem_nil, or_false] at h
  rcases h with rfl | rfl <;> rfl
theorem encPs_get (xs : List (Int × Nat)) (j : Nat) (h : j < xs.length) : (encPs xs)[j * 2]? = some (.int .u64 xs[j].1) ∧ (encPs xs)[j * 2 + 1]? = some (.slice (some ⟨xs[j].2, 0, none⟩) 4096 4096) := by
  induction xs generalizing j with
  | nil => simp at h
  | cons x xs ih =>
    cases j with
    | zero => exact ⟨rfl, rfl⟩
    | succ j =>
      have := ih j (by simpa using h)
      rw [show encPs (x :: xs) = encP x ++ encPs xs from rfl, List.getElem?_append_right (by simp [encP]; omega), List.getElem?_append_right (by simp [encP]; omega)]
      rw [show (j + 1) * 2 - (encP x).length = j * 2 by simp [encP]; omega, show (j + 1) * 2 + 1 - (encP x).length = j * 2 + 1 by simp [encP]; omega]
      exact this
/-- a row of pages that is owned from base on -/
def OwnP (w : World) (base : Nat) (v : Value) (ps : List (Int × Nat)) : Prop := w.ownsRow base 52 2 v ps.length (encPs ps)
theorem OwnP.keeps {Z : Nat → Prop} {w w' : World} {base : Nat} {v : Value} {ps : List (Int × Nat)} (h : OwnP w base v ps) (hk : Keeps Z w w') (hn : ∀ k, v.ownBlock = some k → ¬ Z k) : OwnP w' base v ps := by
  refine ⟨h.1, ?_⟩
  rcases h.2 with hv | ⟨g, cap, cur, rfl, hbb, hgg, rest⟩
  · exact .inl hv
  · exact .inr ⟨g, cap, cur, rfl, hbb, (hk.block g (Array.getElem?_eq_some_iff.1 hgg).1 (hn g rfl)).trans hgg, rest⟩
theorem OwnP.form {w : World} {base : Nat} {v : Value} {ps : List (Int × Nat)} (h : OwnP w base v ps) : ∃ a c, v = .slice a ps.length c ∧ ps.length ≤ c ∧ c ≤ maxLen ∧ ∀ k, v.ownBlock = some k → base ≤ k ∧ ∃ cur, w.heap[k]? = some (.cells cur 52 (0, 0)) := by
  rcases h.2 with ⟨rfl, h0⟩ | ⟨g, cap, cur, rfl, hbb, hgg, h1, h2, _⟩
  · exact ⟨none, 0, by rw [h0], by omega, Nat.zero_le _, fun k e => by cases e⟩
  · exact ⟨_, cap, rfl, h1, h2, fun k e => by cases e; exact ⟨hbb, cur, hgg⟩⟩
theorem OwnP.cell {w : World} {base : Nat} {a : Option Addr} {n c : Nat} {ps : List (Int × Nat)} (h : OwnP w base (.slice a n c) ps) (j : Nat) (hj : j < ps.length) : ∃ g, a = some ⟨g, 0, none⟩ ∧ w.cell? ⟨g, j * 2, none⟩ = some (.int .u64 ps[j].1) ∧ w.cell? ⟨g, j * 2 + 1, none⟩ = some (.slice (some ⟨ps[j].2, 0, none⟩) 4096 4096) := by
  rcases h.2 with ⟨e, h0⟩ | ⟨g, cap, cur, e, hbb, hgg, h1, h2, h3, h4⟩
  · omega
  · cases e
    have hg := encPs_get ps j hj
    refine ⟨g, rfl, ?_, ?_⟩
    · rw [cell_of_row w g (j * 2) _ _ _ hgg, ← Array.getElem?_toList, ← hg.1, ← h4, List.getElem?_take_of_lt (by omega)]
    · rw [cell_of_row w g (j * 2 + 1) _ _ _ hgg, ← Array.getElem?_toList, ← hg.2, ← h4, List.getElem?_take_of_lt (by omega)]
theorem info_pg : (Tryz.prog.info? 52).map (fun i => (i.zero, i.size, i.bytes)) = some (some (.agg #[.int .u64 0, .slice none 0 0]), 2, 32) := by kernel_rfl
theorem run_appP {w : World} {base : Nat} {v : Value} {ps : List (Int × Nat)} {x : Int × Nat} {g cap : Nat} (ty : TypeId) (hv : OwnP w base v ps) (h0 : w.cell? ⟨g, 0, none⟩ = some (.int .u64 x.1)) (h1 : w.cell? ⟨g, 1, none⟩ = some (.slice (some ⟨x.2, 0, none⟩) 4096 4096)) (hlen : ps.length ≤ 1099511627776) (hbase : base ≤ w.heap.size) :
    ∃ v' w', (Builtin.append_ #[47, 47] ty #[v, .slice (some ⟨g, 0, none⟩) 1 cap]).run Tryz.prog w = .ok v' w' ∧ OwnP w' base v' (ps ++ [x]) ∧ w.grownBy w' v.ownBlock := by
  obtain ⟨i, hi, hz0, hz1, hz2⟩ := info_parts info_pg
  obtain ⟨v', w', r1, r2, r3, _⟩ := run_append_own_at (P := Tryz.prog) w base 47 ty 52 i _ 2 _ Tryz.underlying47 hi hz0 hz1 hz2 rfl (by omega) v ps.length (encPs ps) hv ⟨g, 0, none⟩ 1 cap (encP x) rfl (fun j u hj => by
    have hj2 : j < 2 := by have := (List.getElem?_eq_some_iff.1 hj).1; simpa [encP] using this
    rw [Addr.add_lit, Nat.zero_add]
    rcases (by omega : j = 0 ∨ j = 1) with rfl | rfl
    · rw [h0]; exact hj
    · rw [h1]; exact hj) (fun u hu => encPs_one [x] u (by simpa [encPs] using hu)) (by unfold maxLen; omega) (by omega) hbase
  refine ⟨v', w', r1, ?_, r3⟩
  unfold OwnP
  rw [List.length_append, encPs_append]
  have e : encPs [x] = encP x := by simp [encPs]
  rw [e]
  exact r2
theorem step_appP {w : World} {ops : Array Oper} {o : Oper} {a : Act} {K : Act → World → Prop} {Q : Exit → Act → World → Prop} {E : Prop} {base : Nat} {v : Value} {ps : List (Int × Nat)} {x : Int × Nat} {g cap : Nat} (hw : Region.wanted o (yielded ops a.tmps) = true) (s y : Operand)
    (ho : o.op = .call { callee := .builtin .append, args := #[s, y], argTypes := #[47, 47] }) (hs : a.eval s = v) (hv : OwnP w base v ps) (hy : a.eval y = .slice (some ⟨g, 0, none⟩) 1 cap) (h0 : w.cell? ⟨g, 0, none⟩ = some (.int .u64 x.1)) (h1 : w.cell? ⟨g, 1, none⟩ = some (.slice (some ⟨x.2, 0, none⟩) 4096 4096)) (hlen : ps.length ≤ 1099511627776) (hbase : base ≤ w.heap.size)
    (h : ∀ va vn vc w', OwnP w' base (.slice va vn vc) (ps ++ [x]) → w.grownBy w' v.ownBlock → K (a.put o.dst (.slice va vn vc)) w') : if Region.wanted o (yielded ops a.tmps) = true then Oper.wp Tryz.prog o a w K Q else E := by
  rw [if_pos hw]
  obtain ⟨v', w', hr, h2, h3⟩ := run_appP (cap := cap) o.type hv h0 h1 hlen hbase
  obtain ⟨va, vc, rfl, _⟩ := h2.form
  unfold Oper.wp
  simp only [execOp, ho, resolve, invoke, builtin, Sem.run_bind, Sem.run_pure, List.map_toArray, List.map_cons, List.map_nil, hs, hy, hr, Result.andThen_ok]
  exact h va _ vc w' h2 h3
/-- what a machine of the document's own may write -/
def VB (base : Nat) (w : World) (j : Nat) : Prop := base ≤ j ∧ ∃ c t fr, w.heap[j]? = some (.cells c t fr) ∧ (t = 49 ∨ t = 52 ∨ t = 5)
def Kv (base : Nat) (w w' : World) : Prop := Keeps (VB base w) w w'
theorem Kv.refl (base : Nat) (w : World) : Kv base w w := Keeps.refl _ _
theorem Kv.trans {base : Nat} {a b c : World} (h : Kv base a b) (k : Kv base b c) : Kv base a c := by
  refine ⟨k.os.trans h.os, k.tape.trans h.tape, k.output.trans h.output, Nat.le_trans h.size k.size, fun i hi hn => ?_⟩
  have e := h.block i hi hn
  refine (k.block i (Nat.lt_of_lt_of_le hi h.size) (fun hs => hn ?_)).trans e
  obtain ⟨h1, cc, t, fr, h2, h3⟩ := hs
  exact ⟨h1, cc, t, fr, e.symm.trans h2, h3⟩
theorem Kv.of {base : Nat} {w w' : World} {S : Nat → Prop} (h : Keeps S w w') (hs : ∀ k, k < w.heap.size → S k → VB base w k) : Kv base w w' := h.mono hs
theorem Kv.below {base : Nat} {w w' : World} (h : Below w.heap.size w w') : Kv base w w' := Kv.of (Keeps.of_below (S := fun _ => False) h) (fun _ _ h => h.elim)
/-- a machine of the document's own: its block, its row of pages, their bytes -/
def RS (w : World) (base v : Nat) (vr vd vp : Value) (ps : List (Int × Nat)) (L S X : Nat) : Prop := base ≤ v ∧ RBox w v vr vd vp L S X ∧ OwnP w base vp ps ∧ ∀ x ∈ ps, base ≤ x.2 ∧ U8 w x.2 4096
theorem RS.keeps {Z : Nat → Prop} {w w' : World} {base v : Nat} {vr vd vp : Value} {ps : List (Int × Nat)} {L S X : Nat} (h : RS w base v vr vd vp ps L S X) (hk : Keeps Z w w') (hn : ∀ j, VB base w j → ¬ Z j) : RS w' base v vr vd vp ps L S X := by
  obtain ⟨h0, h1, h2, h3⟩ := h
  refine ⟨h0, h1.keeps hk (hn v ⟨h0, _, _, _, h1, .inl rfl⟩), h2.keeps hk (fun k e => ?_), fun x hx => ⟨(h3 x hx).1, (h3 x hx).2.keeps hk (hn _ ?_)⟩⟩
  · obtain ⟨_, _, _, _, _, hf⟩ := h2.form
    obtain ⟨hb, cur, hc⟩ := hf k e
    exact hn k ⟨hb, cur, _, _, hc, .inr (.inl rfl)⟩
  · obtain ⟨cur, hc, _⟩ := (h3 x hx).2
    exact ⟨(h3 x hx).1, cur, _, _, hc, .inr (.inr rfl)⟩
theorem RS.below {w w' : World} {base v : Nat} {vr vd vp : Value} {ps : List (Int × Nat)} {L S X : Nat} (h : RS w base v vr vd vp ps L S X) (hb : Below w.heap.size w w') : RS w' base v vr vd vp ps L S X := h.keeps (Keeps.of_below (S := fun _ => False) hb) (fun _ _ h => h)
theorem RS.write {w : World} {base v : Nat} {vr vd vp : Value} {ps : List (Int × Nat)} {L S X : Nat} (h : RS w base v vr vd vp ps L S X) {g n : Nat} (hg : U8 w g n) (o z : Nat) (hz : z < 256) : RS (w.setCell ⟨g, o, none⟩ (.int .u8 (z : Int))) base v vr vd vp ps L S X := by
  obtain ⟨h0, h1, h2, h3⟩ := h
  obtain ⟨cur, hc, _⟩ := hg
  have hk := Keeps.setCell w g o (.int .u8 (z : Int))
  refine ⟨h0, h1.keeps hk (fun e => ?_), h2.keeps hk (fun k e e' => ?_), fun x hx => ⟨(h3 x hx).1, (h3 x hx).2.set g o z hz⟩⟩
  · have e : v = g := e
    have h1' : w.heap[v]? = _ := h1
    rw [e, hc] at h1'
    cases h1'
  · have e' : k = g := e'
    obtain ⟨_, _, _, _, _, hf⟩ := h2.form
    obtain ⟨_, cur', hc'⟩ := hf k e
    rw [e', hc] at hc'
    cases hc'
/-- the numbers of its pages: none twice, none beyond what there can be -/
def Pn (ps : List (Int × Nat)) : Prop := (ps.map Prod.fst).Nodup ∧ ∀ x ∈ ps, 0 ≤ x.1 ∧ x.1 ≤ 2097152
theorem pigeon : ∀ (n : Nat) (l : List Int), l.Nodup → (∀ x ∈ l, 0 ≤ x ∧ x < (n : Int)) → l.length ≤ n
  | 0, l, _, h => by
    cases l with
    | nil => simp
    | cons x l => have := h x (by simp); omega
  | n + 1, l, hn, h => by
    have h1 := pigeon n (l.erase (n : Int)) (hn.erase _) (fun x hx => by
      have h2 := (hn.mem_erase_iff).1 hx
      have h3 := h x h2.2
      have h4 : x ≠ (n : Int) := h2.1
      omega)
    by_cases hm : (n : Int) ∈ l
    · rw [List.length_erase_of_mem hm] at h1; omega
    · rw [List.erase_of_not_mem hm] at h1; omega
theorem Pn.len {ps : List (Int × Nat)} (h : Pn ps) : ps.length ≤ 2097153 := by
  have := pigeon 2097153 (ps.map Prod.fst) h.1 (fun x hx => by
    obtain ⟨y, hy, rfl⟩ := List.mem_map.1 hx
    have := h.2 y hy
    omega)
  simpa using this
theorem Pn.nil : Pn [] := ⟨by simp, by simp⟩
theorem Pn.add {ps : List (Int × Nat)} (h : Pn ps) {k : Int} (g : Nat) (hk : ∀ x ∈ ps, x.1 ≠ k) (h0 : 0 ≤ k ∧ k ≤ 2097152) : Pn (ps ++ [(k, g)]) := by
  refine ⟨?_, fun x hx => ?_⟩
  · rw [List.map_append, List.nodup_append]
    refine ⟨h.1, by simp, fun a ha b hb e => ?_⟩
    obtain ⟨x, hx, rfl⟩ := List.mem_map.1 ha
    simp only [List.map_cons, List.map_nil, List.mem_singleton] at hb
    exact hk x hx (e.trans hb)
  · rcases List.mem_append.1 hx with hx | hx
    · exact h.2 x hx
    · rw [List.mem_singleton.1 hx]; exact h0
set_option maxHeartbeats 2000000 in
theorem rfind_any {w : World} {base v : Nat} {vr vd vp : Value} {ps : List (Int × Nat)} {L S X : Nat} {k : Int} (h : RS w base v vr vd vp ps L S X) (hl : ps.length ≤ 1099511627776) : Calls Tryz.prog 65 #[.pointer (some ⟨v, 0, none⟩), .int .u64 k] w fun e w' => ∃ j : Int, e = .returned (.int .i64 j) ∧ Hid ((j = -1 ∧ ∀ x ∈ ps, x.1 ≠ k) ∨ ∃ i : Nat, j = (i : Int) ∧ i < ps.length) ∧ w = w' := by
  obtain ⟨h0, h1, h2, h3⟩ := h
  obtain ⟨_, _, c2, _, _, _⟩ := h1.cells
  obtain ⟨a, c, rfl, hc1, hc2, _⟩ := h2.form
  have HC := Lib.hid (fun j hj => h2.cell j hj)
  unfold maxLen at hc2
  obtain ⟨N, hN⟩ : ∃ N, N = ps.length := ⟨_, rfl⟩
  rw [← hN] at c2 hc1 hl
  have HN : Hid (N = ps.length) := hN
  clear h0 h1 h2 h3 hN
  go_enter Tryz.func65, Tryz.ntmps65
  go_wp2_with fail
  go_loop [5] (fun iv => ∃ q : Nat, q ≤ N ∧ iv = .int .i64 (q : Int) ∧ Hid (∀ x ∈ ps.take q, x.1 ≠ k)) (fun iv => N - (intOf iv).toNat)
  case atStart => exact ⟨0, Nat.zero_le _, rfl, by simp [Hid]⟩
  case round =>
    obtain ⟨q, hq, rfl, HQ⟩ := hrel
    by_cases hlt : q < N
    · obtain ⟨g, rfl, d0, d1⟩ := HC.out q (by rw [← HN.out]; exact hlt)
      have HT : Hid (ps[q].1 ≠ k → ∀ x ∈ ps.take (q + 1), x.1 ≠ k) := fun hne x hx => by
        rw [List.take_add_one, List.getElem?_eq_getElem (by rw [← HN.out]; exact hlt)] at hx
        rcases List.mem_append.1 hx with hx | hx
        · exact HQ.out x hx
        · rw [List.mem_singleton.1 hx]; exact hne
      generalize ps[q].1 = x at *
      have qi : (q : Int) < (N : Int) := by omega
      by_cases e : x = k
      · subst e
        go_wp2_with fail
        go_ret
        exact ⟨q, rfl, .inr ⟨q, rfl, by rw [← HN.out]; exact hlt⟩, rfl⟩
      · have he : (x == k) = false := by simpa using e
        go_wp2_with fail
        go_round
        case rel => exact ⟨q + 1, by omega, by go_num, HT.out e⟩
        case measure => simp [intOf]; omega
    · go_wp2_with fail
      go_ret
      exact ⟨-1, rfl, .inl ⟨rfl, by have h := HQ.out; rw [show q = ps.length by rw [← HN.out]; omega, List.take_length] at h; first | exact h | exact fun a b hab => h (a, b) hab⟩, rfl⟩
end Go.Proofs.YtfnikcjcgneboaaGreat
