import Derived.Test.YtddgoncbdlhhhaaGreatR22
import Derived.Test.YtddgoncbdlhhhaaGreatR16
import Derived.Deep.RegionLaw
import Derived.Laws.MakeOwn
import Derived.Deep.DeepCutAuto
/- The document's own machine with pages: what its Store keeps. Own work. -/
namespace Go.Proofs.YtddgoncbdlhhhaaGreat.Wk
/-- a name, so that there is the namespace: at a seat without walk -/
def noWalk : Nat := 0
end Go.Proofs.YtddgoncbdlhhhaaGreat.Wk
namespace Go.Proofs.YtddgoncbdlhhhaaGreat
open Go.RowKit Go.Maps Go.Proofs.YtddgoncbdlhhhaaGreat.Sp Wk
/-- a row of bytes of which only that is known -/
def U8 (w : World) (g n : Nat) : Prop := ∃ cur : Array Value, w.heap[g]? = some (.cells cur 5 (0, 0)) ∧ ∀ i, i < n → ∃ z : Nat, z < 256 ∧ cur[i]? = some (.int .u8 (z : Int))
theorem U8.lt {w : World} {g n : Nat} (h : U8 w g n) : g < w.heap.size := by obtain ⟨_, h, _⟩ := h; exact (Array.getElem?_eq_some_iff.1 h).1
theorem U8.cell {w : World} {g n : Nat} (h : U8 w g n) (i : Nat) (hi : i < n) : ∃ z : Nat, z < 256 ∧ w.cell? ⟨g, i, none⟩ = some (.int .u8 (z : Int)) := by
  obtain ⟨cur, h0, h1⟩ := h
  obtain ⟨z, h2, h3⟩ := h1 i hi
  exact ⟨z, h2, by rw [cell_of_row _ _ _ _ _ _ h0]; exact h3⟩
theorem U8.thawed {w : World} {g n : Nat} (h : U8 w g n) (i : Nat) : w.frozen? ⟨g, i, none⟩ = false := by
  obtain ⟨cur, h0, h1⟩ := h
  simp [World.frozen?, h0]
theorem U8.keeps {Z : Nat → Prop} {w w' : World} {g n : Nat} (h : U8 w g n) (hk : Keeps Z w w') (hn : ¬ Z g) : U8 w' g n := by
  obtain ⟨cur, h0, h1⟩ := id h
  exact ⟨cur, (hk.block g h.lt hn).trans h0, h1⟩
theorem U8.set {w : World} {g n : Nat} (h : U8 w g n) (g' o z : Nat) (hz : z < 256) : U8 (w.setCell ⟨g', o, none⟩ (.int .u8 (z : Int))) g n := by
  by_cases e : g = g'
  · subst e
    obtain ⟨cur, h0, h1⟩ := h
    refine ⟨cur.setIfInBounds o (.int .u8 (z : Int)), by simp [World.setCell, Array.getElem?_modify, h0], fun i hi => ?_⟩
    obtain ⟨y, h2, h3⟩ := h1 i hi
    by_cases eo : o = i
    · subst eo
      refine ⟨z, hz, ?_⟩
      rw [Array.getElem?_setIfInBounds]
      have := (Array.getElem?_eq_some_iff.1 h3).1
      simp [this]
    · exact ⟨y, h2, by rw [Array.getElem?_setIfInBounds, if_neg eo]; exact h3⟩
  · exact h.keeps (Keeps.setCell w g' o _) e
/-- a page: its number, its block, how much room its row has -/
def encP (x : (Int × Nat) × Nat) : List Value := [.int .u64 x.1.1, .slice (some ⟨x.1.2, 0, none⟩) 4096 x.2]
def encPs (xs : List ((Int × Nat) × Nat)) : List Value := xs.flatMap encP
theorem encPs_length (xs : List ((Int × Nat) × Nat)) : (encPs xs).length = xs.length * 2 := by
  induction xs with
  | nil => rfl
  | cons x xs ih => simp only [encPs, List.flatMap_cons, List.length_append, List.length_cons] at ih ⊢; rw [ih]; simp only [encP, List.length_cons, List.length_nil]; omega
theorem encPs_append (xs ys : List ((Int × Nat) × Nat)) : encPs (xs ++ ys) = encPs xs ++ encPs ys := by simp [encPs]
theorem encPs_one (xs : List ((Int × Nat) × Nat)) : ∀ u ∈ encPs xs, u.oneCell' = true := by
  intro u hu
  obtain ⟨x, _, h⟩ := List.mem_flatMap.1 hu
  simp only [encP, List.mem_cons, List.not_mem_nil, or_false] at h
  rcases h with rfl | rfl <;> rfl
theorem encPs_get (xs : List ((Int × Nat) × Nat)) (j : Nat) (h : j < xs.length) : (encPs xs)[j * 2]? = some (.int .u64 xs[j].1.1) ∧ (encPs xs)[j * 2 + 1]? = some (.slice (some ⟨xs[j].1.2, 0, none⟩) 4096 xs[j].2) := by
  induction xs generalizing j with
  | nil => simp at h
  | cons x xs ih =>
    cases j with
    | zero => exact ⟨rfl, rfl⟩
    | succ j =>
      have := ih j (by simpa using h)
      rw [show encPs (x :: xs) = encP x ++ encPs xs from rfl, List.getElem?_append_right (by simp [encP]; omega), List.getElem?_append_right (by simp [encP]; omega)]
      rw [show (j + 1) * 2 - (encP x).length = j * 2 by simp [encP]; omega, show (j + 1) * 2 + 1 - (encP x).length = j * 2 + 1 by simp [encP]; omega]
      exact this
/-- a row of pages that is owned from base on -/
def OwnP (w : World) (base : Nat) (v : Value) (ps : List (Int × Nat)) : Prop := ∃ qs : List ((Int × Nat) × Nat), qs.map Prod.fst = ps ∧ w.ownsRow base 89 2 v qs.length (encPs qs)
theorem OwnP.keeps {Z : Nat → Prop} {w w' : World} {base : Nat} {v : Value} {ps : List (Int × Nat)} (h : OwnP w base v ps) (hk : Keeps Z w w') (hn : ∀ k, v.ownBlock = some k → ¬ Z k) : OwnP w' base v ps := by
  obtain ⟨qs, e, h⟩ := h
  refine ⟨qs, e, h.1, ?_⟩
  rcases h.2 with hv | ⟨g, cap, cur, rfl, hbb, hgg, rest⟩
  · exact .inl hv
  · exact .inr ⟨g, cap, cur, rfl, hbb, (hk.block g (Array.getElem?_eq_some_iff.1 hgg).1 (hn g rfl)).trans hgg, rest⟩
theorem OwnP.form {w : World} {base : Nat} {v : Value} {ps : List (Int × Nat)} (h : OwnP w base v ps) : ∃ a c, v = .slice a ps.length c ∧ ps.length ≤ c ∧ c ≤ maxLen ∧ ∀ k, v.ownBlock = some k → base ≤ k ∧ ∃ cur, w.heap[k]? = some (.cells cur 89 (0, 0)) := by
  obtain ⟨qs, rfl, h⟩ := h
  rw [List.length_map]
  rcases h.2 with ⟨rfl, h0⟩ | ⟨g, cap, cur, rfl, hbb, hgg, h1, h2, _⟩
  · exact ⟨none, 0, by rw [h0], by omega, Nat.zero_le _, fun k e => by cases e⟩
  · exact ⟨_, cap, rfl, h1, h2, fun k e => by cases e; exact ⟨hbb, cur, hgg⟩⟩
theorem OwnP.cell {w : World} {base : Nat} {a : Option Addr} {n c : Nat} {ps : List (Int × Nat)} (h : OwnP w base (.slice a n c) ps) (j : Nat) (hj : j < ps.length) : ∃ g, a = some ⟨g, 0, none⟩ ∧ w.cell? ⟨g, j * 2, none⟩ = some (.int .u64 ps[j].1) ∧ ∃ cq, w.cell? ⟨g, j * 2 + 1, none⟩ = some (.slice (some ⟨ps[j].2, 0, none⟩) 4096 cq) := by
  obtain ⟨qs, rfl, h⟩ := h
  rw [List.length_map] at hj
  simp only [List.getElem_map]
  rcases h.2 with ⟨e, h0⟩ | ⟨g, cap, cur, e, hbb, hgg, h1, h2, h3, h4⟩
  · omega
  · cases e
    have hg := encPs_get qs j hj
    refine ⟨g, rfl, ?_, qs[j].2, ?_⟩
    · rw [cell_of_row w g (j * 2) _ _ _ hgg, ← Array.getElem?_toList, ← hg.1, ← h4, List.getElem?_take_of_lt (by omega)]
    · rw [cell_of_row w g (j * 2 + 1) _ _ _ hgg, ← Array.getElem?_toList, ← hg.2, ← h4, List.getElem?_take_of_lt (by omega)]
theorem OwnP.nil (w : World) (base : Nat) : OwnP w base (.slice none 0 0) [] := ⟨[], rfl, rfl, .inl ⟨rfl, rfl⟩⟩
theorem info_pg : (Tryz.prog.info? 89).map (fun i => (i.zero, i.size, i.bytes)) = some (some (.agg #[.int .u64 0, .slice none 0 0]), 2, 32) := by kernel_rfl
theorem run_appP {w : World} {base : Nat} {v : Value} {ps : List (Int × Nat)} {x : Int × Nat} {g cap cq : Nat} (ty : TypeId) (hv : OwnP w base v ps) (h0 : w.cell? ⟨g, 0, none⟩ = some (.int .u64 x.1)) (h1 : w.cell? ⟨g, 1, none⟩ = some (.slice (some ⟨x.2, 0, none⟩) 4096 cq)) (hlen : ps.length ≤ 1099511627776) (hbase : base ≤ w.heap.size) :
    ∃ v' w', (Builtin.append_ #[66, 66] ty #[v, .slice (some ⟨g, 0, none⟩) 1 cap]).run Tryz.prog w = .ok v' w' ∧ OwnP w' base v' (ps ++ [x]) ∧ w.grownBy w' v.ownBlock := by
  obtain ⟨i, hi, hz0, hz1, hz2⟩ := info_parts info_pg
  obtain ⟨qs, rfl, hv⟩ := hv
  rw [List.length_map] at hlen
  obtain ⟨v', w', r1, r2, r3, _⟩ := run_append_own_at (P := Tryz.prog) w base 66 ty 89 i _ 2 _ Tryz.underlying66 hi hz0 hz1 hz2 rfl (by omega) v qs.length (encPs qs) hv ⟨g, 0, none⟩ 1 cap (encP (x, cq)) rfl (fun j u hj => by
    have hj2 : j < 2 := by have := (List.getElem?_eq_some_iff.1 hj).1; simpa [encP] using this
    rw [Addr.add_lit, Nat.zero_add]
    rcases (by omega : j = 0 ∨ j = 1) with rfl | rfl
    · rw [h0]; exact hj
    · rw [h1]; exact hj) (fun u hu => encPs_one [(x, cq)] u (by simpa [encPs] using hu)) (by unfold maxLen; omega) (by omega) hbase
  refine ⟨v', w', r1, ?_, r3⟩
  refine ⟨qs ++ [(x, cq)], by simp, ?_⟩
  rw [List.length_append, encPs_append]
  have e : encPs [(x, cq)] = encP (x, cq) := by simp [encPs]
  rw [e]
  exact r2
theorem step_appP {w : World} {ops : Array Oper} {o : Oper} {a : Act} {K : Act → World → Prop} {Q : Exit → Act → World → Prop} {E : Prop} {base : Nat} {v : Value} {ps : List (Int × Nat)} {x : Int × Nat} {g cap cq : Nat} (hw : Region.wanted o (yielded ops a.tmps) = true) (s y : Operand)
    (ho : o.op = .call { callee := .builtin .append, args := #[s, y], argTypes := #[66, 66] }) (hs : a.eval s = v) (hv : OwnP w base v ps) (hy : a.eval y = .slice (some ⟨g, 0, none⟩) 1 cap) (h0 : w.cell? ⟨g, 0, none⟩ = some (.int .u64 x.1)) (h1 : w.cell? ⟨g, 1, none⟩ = some (.slice (some ⟨x.2, 0, none⟩) 4096 cq)) (hlen : ps.length ≤ 1099511627776) (hbase : base ≤ w.heap.size)
    (h : ∀ va vn vc w', OwnP w' base (.slice va vn vc) (ps ++ [x]) → w.grownBy w' v.ownBlock → K (a.put o.dst (.slice va vn vc)) w') : if Region.wanted o (yielded ops a.tmps) = true then Oper.wp Tryz.prog o a w K Q else E := by
  rw [if_pos hw]
  obtain ⟨v', w', hr, h2, h3⟩ := run_appP (cap := cap) o.type hv h0 h1 hlen hbase
  obtain ⟨va, vc, rfl, _⟩ := h2.form
  unfold Oper.wp
  simp only [execOp, ho, resolve, invoke, builtin, Sem.run_bind, Sem.run_pure, List.map_toArray, List.map_cons, List.map_nil, hs, hy, hr, Result.andThen_ok]
  exact h va _ vc w' h2 h3
/-- what a machine of the document's own may write -/
def VB (base : Nat) (w : World) (j : Nat) : Prop := base ≤ j ∧ ∃ c t fr, w.heap[j]? = some (.cells c t fr) ∧ (t = 68 ∨ t = 89 ∨ t = 5)
def Kv (base : Nat) (w w' : World) : Prop := Keeps (VB base w) w w'
theorem Kv.refl (base : Nat) (w : World) : Kv base w w := Keeps.refl _ _
theorem Kv.trans {base : Nat} {a b c : World} (h : Kv base a b) (k : Kv base b c) : Kv base a c := by
  refine ⟨k.os.trans h.os, k.tape.trans h.tape, k.output.trans h.output, Nat.le_trans h.size k.size, fun i hi hn => ?_⟩
  have e := h.block i hi hn
  refine (k.block i (Nat.lt_of_lt_of_le hi h.size) (fun hs => hn ?_)).trans e
  obtain ⟨h1, cc, t, fr, h2, h3⟩ := hs
  exact ⟨h1, cc, t, fr, e.symm.trans h2, h3⟩
theorem Kv.of {base : Nat} {w w' : World} {S : Nat → Prop} (h : Keeps S w w') (hs : ∀ k, k < w.heap.size → S k → VB base w k) : Kv base w w' := h.mono hs
theorem Kv.below {base : Nat} {w w' : World} (h : Below w.heap.size w w') : Kv base w w' := Kv.of (Keeps.of_below (S := fun _ => False) h) (fun _ _ h => h.elim)
/-- a machine of the document's own: its block, its row of pages, their bytes -/
def RS (w : World) (base v : Nat) (vr vd vp : Value) (ps : List (Int × Nat)) (L S X : Nat) : Prop := base ≤ v ∧ RBox w v vr vd vp L S X ∧ OwnP w base vp ps ∧ ∀ x ∈ ps, base ≤ x.2 ∧ U8 w x.2 4096
theorem RS.keeps {Z : Nat → Prop} {w w' : World} {base v : Nat} {vr vd vp : Value} {ps : List (Int × Nat)} {L S X : Nat} (h : RS w base v vr vd vp ps L S X) (hk : Keeps Z w w') (hn : ∀ j, VB base w j → ¬ Z j) : RS w' base v vr vd vp ps L S X := by
  obtain ⟨h0, h1, h2, h3⟩ := h
  refine ⟨h0, h1.keeps hk (hn v ⟨h0, _, _, _, h1, .inl rfl⟩), h2.keeps hk (fun k e => ?_), fun x hx => ⟨(h3 x hx).1, (h3 x hx).2.keeps hk (hn _ ?_)⟩⟩
  · obtain ⟨_, _, _, _, _, hf⟩ := h2.form
    obtain ⟨hb, cur, hc⟩ := hf k e
    exact hn k ⟨hb, cur, _, _, hc, .inr (.inl rfl)⟩
  · obtain ⟨cur, hc, _⟩ := (h3 x hx).2
    exact ⟨(h3 x hx).1, cur, _, _, hc, .inr (.inr rfl)⟩
theorem RS.below {w w' : World} {base v : Nat} {vr vd vp : Value} {ps : List (Int × Nat)} {L S X : Nat} (h : RS w base v vr vd vp ps L S X) (hb : Below w.heap.size w w') : RS w' base v vr vd vp ps L S X := h.keeps (Keeps.of_below (S := fun _ => False) hb) (fun _ _ h => h)
theorem RS.write {w : World} {base v : Nat} {vr vd vp : Value} {ps : List (Int × Nat)} {L S X : Nat} (h : RS w base v vr vd vp ps L S X) {g n : Nat} (hg : U8 w g n) (o z : Nat) (hz : z < 256) : RS (w.setCell ⟨g, o, none⟩ (.int .u8 (z : Int))) base v vr vd vp ps L S X := by
  obtain ⟨h0, h1, h2, h3⟩ := h
  obtain ⟨cur, hc, _⟩ := hg
  have hk := Keeps.setCell w g o (.int .u8 (z : Int))
  refine ⟨h0, h1.keeps hk (fun e => ?_), h2.keeps hk (fun k e e' => ?_), fun x hx => ⟨(h3 x hx).1, (h3 x hx).2.set g o z hz⟩⟩
  · have e : v = g := e
    have h1' : w.heap[v]? = _ := h1
    rw [e, hc] at h1'
    cases h1'
  · have e' : k = g := e'
    obtain ⟨_, _, _, _, _, hf⟩ := h2.form
    obtain ⟨_, cur', hc'⟩ := hf k e
    rw [e', hc] at hc'
    cases hc'
/-- the numbers of its pages: none twice, none beyond what there can be -/
def Pn (ps : List (Int × Nat)) : Prop := (ps.map Prod.fst).Nodup ∧ ∀ x ∈ ps, 0 ≤ x.1 ∧ x.1 ≤ 2097152
theorem pigeon : ∀ (n : Nat) (l : List Int), l.Nodup → (∀ x ∈ l, 0 ≤ x ∧ x < (n : Int)) → l.length ≤ n
  | 0, l, _, h => by
    cases l with
    | nil => simp
    | cons x l => have := h x (by simp); omega
  | n + 1, l, hn, h => by
    have h1 := pigeon n (l.erase (n : Int)) (hn.erase _) (fun x hx => by
      have h2 := (hn.mem_erase_iff).1 hx
      have h3 := h x h2.2
      have h4 : x ≠ (n : Int) := h2.1
      omega)
    by_cases hm : (n : Int) ∈ l
    · rw [List.length_erase_of_mem hm] at h1; omega
    · rw [List.erase_of_not_mem hm] at h1; omega
theorem Pn.len {ps : List (Int × Nat)} (h : Pn ps) : ps.length ≤ 2097153 := by
  have := pigeon 2097153 (ps.map Prod.fst) h.1 (fun x hx => by
    obtain ⟨y, hy, rfl⟩ := List.mem_map.1 hx
    have := h.2 y hy
    omega)
  simpa using this
theorem Pn.nil : Pn [] := ⟨by simp, by simp⟩
theorem Pn.add {ps : List (Int × Nat)} (h : Pn ps) {k : Int} (g : Nat) (hk : ∀ x ∈ ps, x.1 ≠ k) (h0 : 0 ≤ k ∧ k ≤ 2097152) : Pn (ps ++ [(k, g)]) := by
  refine ⟨?_, fun x hx => ?_⟩
  · rw [List.map_append, List.nodup_append]
    refine ⟨h.1, by simp, fun a ha b hb e => ?_⟩
    obtain ⟨x, hx, rfl⟩ := List.mem_map.1 ha
    simp only [List.map_cons, List.map_nil, List.mem_singleton] at hb
    exact hk x hx (e.trans hb)
  · rcases List.mem_append.1 hx with hx | hx
    · exact h.2 x hx
    · rw [List.mem_singleton.1 hx]; exact h0
set_option maxHeartbeats 2000000 in
theorem rfind_any {w : World} {base v : Nat} {vr vd vp : Value} {ps : List (Int × Nat)} {L S X : Nat} {k : Int} (h : RS w base v vr vd vp ps L S X) (hl : ps.length ≤ 1099511627776) : Calls Tryz.prog 87 #[.pointer (some ⟨v, 0, none⟩), .int .u64 k] w fun e w' => ∃ j : Int, e = .returned (.int .i64 j) ∧ Hid ((j = -1 ∧ ∀ x ∈ ps, x.1 ≠ k) ∨ ∃ i : Nat, j = (i : Int) ∧ i < ps.length) ∧ w = w' := by
  obtain ⟨h0, h1, h2, h3⟩ := h
  obtain ⟨_, _, c2, _, _, _⟩ := h1.cells
  obtain ⟨a, c, rfl, hc1, hc2, _⟩ := h2.form
  have HC := Lib.hid (fun j hj => h2.cell j hj)
  unfold maxLen at hc2
  obtain ⟨N, hN⟩ : ∃ N, N = ps.length := ⟨_, rfl⟩
  rw [← hN] at c2 hc1 hl
  have HN : Hid (N = ps.length) := hN
  clear h0 h1 h2 h3 hN
  go_enter Tryz.func87, Tryz.ntmps87
  go_wp2_with fail
  go_loop [5] (fun iv => ∃ q : Nat, q ≤ N ∧ iv = .int .i64 (q : Int) ∧ Hid (∀ x ∈ ps.take q, x.1 ≠ k)) (fun iv => N - (intOf iv).toNat)
  case atStart => exact ⟨0, Nat.zero_le _, rfl, by simp [Hid]⟩
  case round =>
    obtain ⟨q, hq, rfl, HQ⟩ := hrel
    by_cases hlt : q < N
    · obtain ⟨g, rfl, d0, d1⟩ := HC.out q (by rw [← HN.out]; exact hlt)
      have HT : Hid (ps[q].1 ≠ k → ∀ x ∈ ps.take (q + 1), x.1 ≠ k) := fun hne x hx => by
        rw [List.take_add_one, List.getElem?_eq_getElem (by rw [← HN.out]; exact hlt)] at hx
        rcases List.mem_append.1 hx with hx | hx
        · exact HQ.out x hx
        · rw [List.mem_singleton.1 hx]; exact hne
      generalize ps[q].1 = x at *
      have qi : (q : Int) < (N : Int) := by omega
      by_cases e : x = k
      · subst e
        go_wp2_with fail
        go_ret
        exact ⟨q, rfl, .inr ⟨q, rfl, by rw [← HN.out]; exact hlt⟩, rfl⟩
      · have he : (x == k) = false := by simpa using e
        go_wp2_with fail
        go_round
        case rel => exact ⟨q + 1, by omega, by go_num, HT.out e⟩
        case measure => simp [intOf]; omega
    · go_wp2_with fail
      go_ret
      exact ⟨-1, rfl, .inl ⟨rfl, by have h := HQ.out; rw [show q = ps.length by rw [← HN.out]; omega, List.take_length] at h; first | exact h | exact fun a b hab => h (a, b) hab⟩, rfl⟩
end Go.Proofs.YtddgoncbdlhhhaaGreat
/- The document's own machine with pages: its lay. Own work. -/
namespace Go.Proofs.YtddgoncbdlhhhaaGreat
open Go.RowKit Go.Maps Go.Proofs.YtddgoncbdlhhhaaGreat.Sp Wk
def zc : Array Value := madeCells #[.int .u8 0] 4096
theorem zc_get (i : Nat) (h : i < 4096) : zc[i]? = some (.int .u8 ((0 : Nat) : Int)) := by
  unfold zc madeCells
  rw [Array.getElem?_map, Array.getElem?_eq_getElem (by simpa using h)]
  simp [Nat.mod_one]
theorem U8.zero (w : World) (t : Array Value) (ty : TypeId) : U8 ((w.alloc (.cells zc 5)).alloc (.cells t ty)).drew w.heap.size 4096 := by
  refine ⟨zc, ?_, fun i hi => ⟨0, by omega, zc_get i hi⟩⟩
  show ((w.heap.push _).push _)[w.heap.size]? = _
  rw [Array.getElem?_push, if_neg (by simp), Array.getElem?_push_size]
theorem info_u8 : (Tryz.prog.info? 5).map (fun i => (i.zero, i.size, i.bytes)) = some (some (.int .u8 0), 1, 1) := by kernel_rfl
theorem make_page (W : World) : (Instr.makeSlice 27 (.int .i64 4096) (.int .i64 4096)).run Tryz.prog W = .ok (.slice (some ⟨W.heap.size, 0, none⟩) 4096 4096) (W.alloc (.cells zc 5)) := by
  obtain ⟨i, hi, hz0, hz1, hz2⟩ := info_parts info_u8
  have h := run_make (P := Tryz.prog) W 27 5 i _ Tryz.underlying27 hi hz0 .i64 .i64 4096 4096 (by omega) (by omega) (by rw [hz2]; decide) (by omega)
  rw [h, hz1]
  rfl
/-- the world ahead of the append -/
abbrev W2 (w : World) (pg : Int) : World := ((w.alloc (.cells zc 5)).alloc (.cells #[.int .u64 pg, .slice (some ⟨w.heap.size, 0, none⟩) 4096 4096] 89)).drew
theorem W2.keeps (w : World) (pg : Int) : Keeps (fun _ => False) w (W2 w pg) := Keeps.drew (Keeps.trans (Keeps.alloc (S := fun _ => False) w _) (Keeps.alloc (S := fun _ => False) _ _) (fun _ _ e => e))
theorem W2.cells (w : World) (pg : Int) : (W2 w pg).cell? ⟨w.heap.size + 1, 0, none⟩ = some (.int .u64 pg) ∧ (W2 w pg).cell? ⟨w.heap.size + 1, 1, none⟩ = some (.slice (some ⟨w.heap.size, 0, none⟩) 4096 4096) := by
  have h : (W2 w pg).heap[w.heap.size + 1]? = some (.cells #[.int .u64 pg, .slice (some ⟨w.heap.size, 0, none⟩) 4096 4096] 89 (0, 0)) := by
    show ((w.heap.push _).push _)[w.heap.size + 1]? = _
    rw [Array.getElem?_push, if_pos (by rw [Array.size_push])]
  refine ⟨?_, ?_⟩ <;> rw [cell_of_row _ _ _ _ _ _ h] <;> rfl
theorem RS.app {w w2 : World} {base v : Nat} {vr vd vp v2 : Value} {ps : List (Int × Nat)} {L S X : Nat} (h : RS w base v vr vd vp ps L S X) (hb : base ≤ w.heap.size) (pg : Int) (ho : OwnP w2 base v2 (ps ++ [(pg, w.heap.size)])) (hg : (W2 w pg).grownBy w2 vp.ownBlock) :
    RS (w2.setCell ⟨v, 2, none⟩ v2) base v vr vd v2 (ps ++ [(pg, w.heap.size)]) L S X ∧ Kv base w (w2.setCell ⟨v, 2, none⟩ v2) ∧ (∀ g n, U8 w g n → U8 (w2.setCell ⟨v, 2, none⟩ v2) g n) ∧ w2.cell? ⟨v, 2, none⟩ = some vp ∧ w2.frozen? ⟨v, 2, none⟩ = false ∧ base ≤ (w2.setCell ⟨v, 2, none⟩ v2).heap.size := by
  obtain ⟨h0, h1, h2, h3⟩ := h
  have hvb : ∀ k, vp.ownBlock = some k → base ≤ k ∧ ∃ cur, w.heap[k]? = some (.cells cur 89 (0, 0)) := by
    obtain ⟨_, _, _, _, _, hf⟩ := h2.form
    exact hf
  have kk : Keeps (fun j => vp.ownBlock = some j) w w2 := ((W2.keeps w pg).mono (S' := fun j => vp.ownBlock = some j) fun _ _ e => e.elim).trans (Keeps.of_grown hg) fun _ _ e => e
  have b1 : RBox w2 v vr vd vp L S X := h1.keeps kk (fun e => by
    obtain ⟨_, cur, hc⟩ := hvb v e
    rw [show w.heap[v]? = _ from h1] at hc
    cases hc)
  have hk := Keeps.setCell w2 v 2 v2
  have u1 : ∀ g n, U8 w2 g n → U8 (w2.setCell ⟨v, 2, none⟩ v2) g n := fun g n hu => hu.keeps hk (fun e => by
    have e : g = v := e
    obtain ⟨cur, hc, _⟩ := hu
    rw [e, show w2.heap[v]? = _ from b1] at hc
    cases hc)
  have u0 : ∀ g n, U8 w g n → U8 (w2.setCell ⟨v, 2, none⟩ v2) g n := fun g n hu => u1 g n (hu.keeps kk (fun e => by
    obtain ⟨_, cur, hc⟩ := hvb g e
    obtain ⟨cur', hc', _⟩ := hu
    rw [hc] at hc'
    cases hc'))
  refine ⟨⟨h0, ?_, ho.keeps hk (fun k e e' => ?_), fun x hx => ?_⟩, ?_, u0, ?_, b1.thawed 2, Nat.le_trans hb (Nat.le_trans kk.size hk.size)⟩
  · have b1' : w2.heap[v]? = _ := b1
    simp [RBox, World.setCell, Array.getElem?_modify, b1']
  · have e' : k = v := e'
    obtain ⟨_, _, _, _, _, hf⟩ := ho.form
    obtain ⟨_, cur, hc⟩ := hf k e
    rw [e', show w2.heap[v]? = _ from b1] at hc
    cases hc
  · rcases List.mem_append.1 hx with hx | hx
    · exact ⟨(h3 x hx).1, u0 _ _ (h3 x hx).2⟩
    · obtain rfl := List.mem_singleton.1 hx
      refine ⟨hb, u1 _ _ ((U8.zero w _ _).keeps (Keeps.of_grown hg) (fun e => ?_))⟩
      obtain ⟨_, cur, hc⟩ := hvb _ e
      have := (Array.getElem?_eq_some_iff.1 hc).1
      omega
  · refine Kv.of ((kk.mono (S' := fun j => vp.ownBlock = some j ∨ j = v) fun _ _ e => .inl e).trans hk fun _ _ e => .inr e) (fun k hkl e => ?_)
    rcases e with e | e
    · obtain ⟨hbk, cur, hc⟩ := hvb k e
      exact ⟨hbk, cur, _, _, hc, .inr (.inl rfl)⟩
    · subst e
      exact ⟨h0, _, _, _, h1, .inl rfl⟩
  · exact b1.cells.2.2.1
/-- what lay keeps -/
def LayI (w0 w : World) (base v : Nat) (vr vd : Value) (L S X gb n : Nat) (vp : Value) (ps : List (Int × Nat)) : Prop := RS w base v vr vd vp ps L S X ∧ U8 w gb n ∧ Kv base w0 w ∧ Pn ps ∧ base ≤ w.heap.size
theorem LayI.write {w0 w : World} {base v : Nat} {vr vd vp : Value} {L S X gb n : Nat} {ps : List (Int × Nat)} (h : LayI w0 w base v vr vd L S X gb n vp ps) {x : Nat} (hx : U8 w x 4096) (hb : base ≤ x) (t z : Nat) (hz : z < 256) : LayI w0 (w.setCell ⟨x, t, none⟩ (.int .u8 (z : Int))) base v vr vd L S X gb n vp ps := by
  refine ⟨h.1.write hx t z hz, h.2.1.set x t z hz, h.2.2.1.trans (Kv.of (Keeps.setCell w x t _) (fun k _ e => ?_)), h.2.2.2.1, Nat.le_trans h.2.2.2.2 (Keeps.setCell w x t (.int .u8 (z : Int))).size⟩
  have e : k = x := e
  subst e
  obtain ⟨cur, hc, _⟩ := hx
  exact ⟨hb, cur, _, _, hc, .inr (.inr rfl)⟩
set_option maxRecDepth 100000 in
set_option maxHeartbeats 2000000 in
theorem rlay_any {w : World} {base v : Nat} {vr vd vp : Value} {ps : List (Int × Nat)} {L S X a n gb cb : Nat} (h : RS w base v vr vd vp ps L S X) (hb : base ≤ w.heap.size) (hB : U8 w gb n) (hn : n ≤ 8) (hcb : n ≤ cb) (ha : a + n ≤ 4294967400) (hl : Pn ps) :
    Calls Tryz.prog 54 #[.pointer (some ⟨v, 0, none⟩), .int .u64 (a : Int), .slice (some ⟨gb, 0, none⟩) n cb, .int .i64 (n : Int), .int .u8 0] w fun e w' => e = .returned (.tuple #[]) ∧ ∃ vp' ps', RS w' base v vr vd vp' ps' L S X ∧ Pn ps' ∧ Kv base w w' := by
  have HI0 : Hid (∃ vp' ps', LayI w w base v vr vd L S X gb n vp' ps') := ⟨vp, ps, h, hB, Kv.refl _ _, hl, hb⟩
  clear h hB hb hl
  have hmk : ∀ W : World, (Instr.makeSlice 27 (.int .i64 4096) (.int .i64 4096)).run Tryz.prog W = .ok (.slice (some ⟨W.heap.size, 0, none⟩) 4096 4096) (W.alloc (.cells zc 5)) := make_page
  go_enter Tryz.func54, Tryz.ntmps54
  go_wp2_with fail
  go_loopw [10] (fun iv wr => ∃ i : Nat, i ≤ n ∧ iv = .int .i64 (i : Int) ∧ Hid (∃ vp' ps', LayI w wr base v vr vd L S X gb n vp' ps')) (fun iv _ => n - (intOf iv).toNat)
  case atStart => exact ⟨0, Nat.zero_le _, rfl, HI0⟩
  case round =>
    obtain ⟨i, hi, rfl, HI⟩ := hrel
    by_cases hlt : i < n
    · obtain ⟨vp1, ps1, HI1⟩ := HI.out
      have HL := Lib.hid HI1
      clear HI1 HI HI0
      have qi : (i : Int) < (n : Int) := by omega
      have hai : (a : Int) + (i : Int) ≤ 18446744073709551615 := by omega
      obtain ⟨fr, hfr, hfr2⟩ : ∃ fr : Nat, ((a : Int) + (i : Int)) % 4096 = (fr : Int) ∧ fr < 4096 := ⟨(a + i) % 4096, by omega, by omega⟩
      obtain ⟨pg, hpg⟩ : ∃ pg : Nat, ((a : Int) + (i : Int)) / 4096 = (pg : Int) := ⟨(a + i) / 4096, by omega⟩
      have hw1 : IntKind.u64.wrap ((a : Int) + (i : Int)) = (a : Int) + (i : Int) := by rw [IntKind.wrap_u64]; omega
      have HF : Hid (Calls Tryz.prog 87 #[.pointer (some ⟨v, 0, none⟩), .int .u64 (pg : Int)] wr fun e w' => ∃ j : Int, e = .returned (.int .i64 j) ∧ Hid ((j = -1 ∧ ∀ x ∈ ps1, x.1 ≠ (pg : Int)) ∨ ∃ i : Nat, j = (i : Int) ∧ i < ps1.length) ∧ wr = w') := rfind_any HL.out.1 (by have := HL.out.2.2.2.1.len; omega)
      obtain ⟨k, hk1, hk2, hk3, hkk⟩ : ∃ k : Nat, 1 ≤ k ∧ k ≤ n - i ∧ k + fr ≤ 4096 ∧ Hid ((decide ((k : Int) < 4096 - (fr : Int)) = true ∧ (n : Int) - (i : Int) = (k : Int)) ∨ (decide ((n : Int) - (i : Int) < (k : Int)) = false ∧ (4096 : Int) - (fr : Int) = (k : Int))) := by
        by_cases hc : n - i < 4096 - fr
        · exact ⟨n - i, by omega, by omega, by omega, .inl ⟨by simp; omega, by omega⟩⟩
        · exact ⟨4096 - fr, by omega, by omega, by omega, .inr ⟨by simp; omega, by omega⟩⟩
      go_upto_if 31 with fail
      go_cut [12] (fun s wx => s = .int .i64 (k : Int) ∧ wx = wr)
      case first =>
        rcases hkk.out with ⟨hci, hk⟩ | ⟨hci, hk⟩
        · have hcp : (n : Int) - (i : Int) < 4096 - (fr : Int) := by rw [hk]; exact of_decide_eq_true hci
          clear hci
          rw [hk] at hcp
          go_wp2_with fail
          go_meet
          exact ⟨rfl, rfl⟩
        · have hcp : ¬ (n : Int) - (i : Int) < (k : Int) := of_decide_eq_false hci
          clear hci
          go_wp2_with fail
          go_meet
          exact ⟨rfl, rfl⟩
      case rest =>
        obtain ⟨rfl, rfl⟩ := hcut
        clear hkk
        go_wp2_with fail
        refine HF.out.mono ?_
        rintro e w1 ⟨j, rfl, hj, rfl⟩
        clear HF
        go_upto_region 7 with fail
        go_cut [51] (fun s wx => s = .bool (decide (j < 0)) ∧ wx = wc)
        case first =>
          rcases hj.out with ⟨rfl, hjx⟩ | ⟨j0, rfl, hj0⟩
          · go_wp2_with fail
            go_meet
            exact ⟨rfl, rfl⟩
          · have hjn : decide ((j0 : Int) < 0) = false := by simp
            go_wp2_with fail
            go_meet
            exact ⟨by go_num, rfl⟩
        case rest =>
          obtain ⟨rfl, hwc⟩ := hcut
          subst hwc
          go_upto_if 51 with fail
          go_cut [13] (fun s wx => ∃ (jj : Nat) (vp2 : Value) (ps2 : List (Int × Nat)), s = .int .i64 (jj : Int) ∧ Hid (jj < ps2.length) ∧ Hid (LayI w wx base v vr vd L S X gb n vp2 ps2))
          case first =>
            rcases hj.out with ⟨rfl, hjx⟩ | ⟨j0, rfl, hj0⟩
            · clear hj
              have HJX := Lib.hid hjx
              clear hjx
              obtain ⟨c0, c1, c2, _⟩ := HL.out.1.2.1.cells
              have hvl := HL.out.1.2.1.lt
              have hv1 : v ≠ wc.heap.size := by omega
              have hv2 : v ≠ wc.heap.size + 1 := by omega
              obtain ⟨a1, cc, hvp, hc1, hc2, _⟩ := HL.out.1.2.2.1.form
              unfold maxLen at hc2
              obtain ⟨n1, hn1⟩ : ∃ n1, n1 = ps1.length := ⟨_, rfl⟩
              have HN1 : Hid (n1 = ps1.length) := hn1
              rw [← hn1] at hvp hc1
              have hn1l : n1 ≤ 2097153 := by rw [HN1.out]; exact HL.out.2.2.2.1.len
              subst hvp
              clear hn1
              have HO : Hid (OwnP (W2 wc (pg : Int)) base (.slice a1 n1 cc) ps1) := HL.out.1.2.2.1.keeps (W2.keeps wc (pg : Int)) (fun _ _ e => e)
              have HC : Hid ((W2 wc (pg : Int)).cell? ⟨wc.heap.size + 1, 0, none⟩ = some (.int .u64 (pg : Int)) ∧ (W2 wc (pg : Int)).cell? ⟨wc.heap.size + 1, 1, none⟩ = some (.slice (some ⟨wc.heap.size, 0, none⟩) 4096 4096)) := W2.cells wc (pg : Int)
              have HA : Hid (∀ v2 w2, OwnP w2 base v2 (ps1 ++ [((pg : Int), wc.heap.size)]) → (W2 wc (pg : Int)).grownBy w2 (Value.slice a1 n1 cc).ownBlock → LayI w (w2.setCell ⟨v, 2, none⟩ v2) base v vr vd L S X gb n v2 (ps1 ++ [((pg : Int), wc.heap.size)]) ∧ w2.cell? ⟨v, 2, none⟩ = some (.slice a1 n1 cc) ∧ w2.frozen? ⟨v, 2, none⟩ = false) := fun v2 w2 ho hg => by
                obtain ⟨r1, r2, r3, r4, r5, r6⟩ := HL.out.1.app HL.out.2.2.2.2 (pg : Int) ho hg
                exact ⟨⟨r1, r3 _ _ HL.out.2.1, HL.out.2.2.1.trans r2, HL.out.2.2.2.1.add _ HJX.out ⟨by omega, by omega⟩, r6⟩, r4, r5⟩
              have HBs : Hid (base ≤ (W2 wc (pg : Int)).heap.size) := Nat.le_trans HL.out.2.2.2.2 (W2.keeps wc (pg : Int)).size
              have hw0 : IntKind.u64.wrap (i : Int) = (i : Int) := by rw [IntKind.wrap_u64]; omega
              have hw2 : IntKind.u64.wrap (((a : Int) + (i : Int)).tdiv 4096) = (pg : Int) := by rw [Int.tdiv_eq_ediv_of_nonneg (by omega), hpg, IntKind.wrap_u64]; omega
              have HLn : Hid (ps1.length ≤ 1099511627776) := by show _ ≤ _; rw [← HN1.out]; omega
              go_wp2_with fail
              go_region_law (refine step_appP (base := base) (v := .slice a1 n1 cc) (ps := ps1) (x := ((pg : Int), wc.heap.size)) (by kernel_rfl) (.tmp 61) (.tmp 69) (by rfl) (by rfl) (by exact HO.out) (by rfl) (by exact HC.out.1) (by exact HC.out.2) HLn.out (by exact HBs.out) ?_; intro va vn vc w2 ho hg; obtain ⟨hl2, hc2, hf2⟩ := HA.out _ w2 ho hg; have HL2 := Lib.hid hl2; clear hl2 ho hg)
              all_goals
                go_wp2_with fail
                go_meet
                exact ⟨n1, _, _, rfl, by show _ < _; rw [HN1.out, List.length_append]; exact Nat.lt_succ_self _, HL2⟩
            · clear hj
              have HJ : Hid (j0 < ps1.length) := hj0
              clear hj0
              have HL2 : Hid (LayI w wc base v vr vd L S X gb n vp1 ps1) := ⟨HL.out.1, HL.out.2.1, HL.out.2.2.1, HL.out.2.2.2.1, HL.out.2.2.2.2⟩
              go_wp2_with fail
              go_meet
              exact ⟨j0, _, _, rfl, HJ, HL2⟩
          case rest =>
            obtain ⟨jj, vp2, ps2, rfl, HJ, HL2⟩ := hcut
            clear hj HL
            have jj0 : (0 : Int) ≤ (jj : Int) := Int.natCast_nonneg _
            go_wp2_with fail
            go_loopw [14] (fun qv wq => ∃ q : Nat, q ≤ k ∧ qv = .int .i64 (q : Int) ∧ Hid (LayI w wq base v vr vd L S X gb n vp2 ps2)) (fun qv _ => k - (intOf qv).toNat)
            case atStart => exact ⟨0, Nat.zero_le _, rfl, HL2⟩
            case round =>
              obtain ⟨q, hq, rfl, HQ⟩ := hrel
              by_cases hqk : q < k
              · have qki : (q : Int) < (k : Int) := by omega
                obtain ⟨c0, c1, c2, _⟩ := HQ.out.1.2.1.cells
                obtain ⟨a1, cc, hvp, hc1, hc2, _⟩ := HQ.out.1.2.2.1.form
                unfold maxLen at hc2
                obtain ⟨n1, hn1⟩ : ∃ n1, n1 = ps2.length := ⟨_, rfl⟩
                have HN1 : Hid (n1 = ps2.length) := hn1
                rw [← hn1] at hvp hc1
                have hjn : jj < n1 := by rw [HN1.out]; exact HJ.out
                subst hvp
                clear hn1
                obtain ⟨g, rfl, d0, cq, d1⟩ := HQ.out.1.2.2.1.cell jj HJ.out
                obtain ⟨hxb, hxu⟩ := HQ.out.1.2.2.2 _ (List.getElem_mem HJ.out)
                have HXU := Lib.hid hxu
                have HXB := Lib.hid hxb
                generalize (ps2[jj]'HJ.out).2 = x at *
                obtain ⟨s, hs, hs2⟩ : ∃ s : Nat, (i : Int) + (q : Int) = (s : Int) ∧ s < n := ⟨i + q, by omega, by omega⟩
                obtain ⟨t, ht, ht2⟩ : ∃ t : Nat, (fr : Int) + (q : Int) = (t : Int) ∧ t < 4096 := ⟨fr + q, by omega, by omega⟩
                obtain ⟨z, hz, hcz⟩ := HQ.out.2.1.cell s hs2
                obtain ⟨y, hy, hcy⟩ := HXU.out.cell t ht2
                have hfz := HXU.out.thawed t
                clear hxb hxu
                go_wp2_with fail
                refine ⟨⟨q + 1, by omega, by go_num, ?_⟩, by simp [intOf]; omega⟩
                exact HQ.out.write HXU.out HXB.out t z hz
              · go_wp2_with fail
                refine ⟨⟨i + k, by omega, by go_num, ?_⟩, by simp [intOf]; omega⟩
                exact ⟨_, _, HQ.out.1, HQ.out.2.1, HQ.out.2.2.1, HQ.out.2.2.2.1, HQ.out.2.2.2.2⟩
    · obtain rfl : i = n := by omega
      go_wp2_with fail
      go_end0
      obtain ⟨vp1, ps1, h1⟩ := HI.out
      exact ⟨rfl, vp1, ps1, h1.1, h1.2.2.2.1, h1.2.2.1⟩
end Go.Proofs.YtddgoncbdlhhhaaGreat
/- The document's own machine with pages, and what lies in them. Own work. -/
namespace Go.Proofs.YtddgoncbdlhhhaaGreat
open Go.RowKit Go.Maps Go.Proofs.YtddgoncbdlhhhaaGreat.Sp Wk
/-- a row of n bytes and what they are -/
def P8 (w : World) (g n : Nat) (f : Nat → Nat) : Prop := ∃ cur : Array Value, w.heap[g]? = some (.cells cur 5 (0, 0)) ∧ ∀ i, i < n → cur[i]? = some (.int .u8 (f i : Int))
theorem P8.u8 {w : World} {g n : Nat} {f : Nat → Nat} (h : P8 w g n f) (hf : ∀ i, i < n → f i < 256) : U8 w g n := by
  obtain ⟨cur, h0, h1⟩ := h
  exact ⟨cur, h0, fun i hi => ⟨f i, hf i hi, h1 i hi⟩⟩
theorem P8.lt {w : World} {g n : Nat} {f : Nat → Nat} (h : P8 w g n f) : g < w.heap.size := by obtain ⟨_, h, _⟩ := h; exact (Array.getElem?_eq_some_iff.1 h).1
theorem P8.cell {w : World} {g n : Nat} {f : Nat → Nat} (h : P8 w g n f) (i : Nat) (hi : i < n) : w.cell? ⟨g, i, none⟩ = some (.int .u8 (f i : Int)) := by
  obtain ⟨cur, h0, h1⟩ := h
  rw [cell_of_row _ _ _ _ _ _ h0]
  exact h1 i hi
theorem P8.thawed {w : World} {g n : Nat} {f : Nat → Nat} (h : P8 w g n f) (i : Nat) : w.frozen? ⟨g, i, none⟩ = false := by
  obtain ⟨cur, h0, h1⟩ := h
  simp [World.frozen?, h0]
theorem P8.keeps {Z : Nat → Prop} {w w' : World} {g n : Nat} {f : Nat → Nat} (h : P8 w g n f) (hk : Keeps Z w w') (hn : ¬ Z g) : P8 w' g n f := by
  obtain ⟨cur, h0, h1⟩ := id h
  exact ⟨cur, (hk.block g h.lt hn).trans h0, h1⟩
theorem P8.congr {w : World} {g n : Nat} {f f' : Nat → Nat} (h : P8 w g n f) (he : ∀ i, i < n → f' i = f i) : P8 w g n f' := by
  obtain ⟨cur, h0, h1⟩ := h
  exact ⟨cur, h0, fun i hi => by rw [he i hi]; exact h1 i hi⟩
theorem P8.set {w : World} {g n : Nat} {f : Nat → Nat} (h : P8 w g n f) (o z : Nat) : P8 (w.setCell ⟨g, o, none⟩ (.int .u8 (z : Int))) g n (fun i => if i = o then z else f i) := by
  obtain ⟨cur, h0, h1⟩ := h
  refine ⟨cur.setIfInBounds o (.int .u8 (z : Int)), by simp [World.setCell, Array.getElem?_modify, h0], fun i hi => ?_⟩
  have h3 := h1 i hi
  have hb := (Array.getElem?_eq_some_iff.1 h3).1
  rw [Array.getElem?_setIfInBounds]
  by_cases e : i = o
  · subst e
    simp [hb]
  · rw [if_neg (fun h => e h.symm), h3]
    show _ = some (Value.int .u8 ((if i = o then z else f i : Nat) : Int))
    rw [if_neg e]
/-- a machine of the document's own and its memory -/
def RM (w : World) (base v : Nat) (vr vd vp : Value) (ps : List (Int × Nat)) (M : Nat → Nat) (L S X : Nat) : Prop :=
  base ≤ v ∧ RBox w v vr vd vp L S X ∧ OwnP w base vp ps ∧ (∀ x ∈ ps, base ≤ x.2 ∧ P8 w x.2 4096 (fun i => M (x.1.toNat * 4096 + i))) ∧ Pn ps ∧ (ps.map Prod.snd).Nodup ∧ (∀ p, M p < 256) ∧ ∀ p, (∀ x ∈ ps, x.1 ≠ ((p / 4096 : Nat) : Int)) → M p = 0
theorem RM.rs {w : World} {base v : Nat} {vr vd vp : Value} {ps : List (Int × Nat)} {M : Nat → Nat} {L S X : Nat} (h : RM w base v vr vd vp ps M L S X) : RS w base v vr vd vp ps L S X :=
  ⟨h.1, h.2.1, h.2.2.1, fun x hx => ⟨(h.2.2.2.1 x hx).1, (h.2.2.2.1 x hx).2.u8 (fun _ _ => h.2.2.2.2.2.2.1 _)⟩⟩
theorem RM.pn {w : World} {base v : Nat} {vr vd vp : Value} {ps : List (Int × Nat)} {M : Nat → Nat} {L S X : Nat} (h : RM w base v vr vd vp ps M L S X) : Pn ps := h.2.2.2.2.1
theorem RM.keeps {Z : Nat → Prop} {w w' : World} {base v : Nat} {vr vd vp : Value} {ps : List (Int × Nat)} {M : Nat → Nat} {L S X : Nat} (h : RM w base v vr vd vp ps M L S X) (hk : Keeps Z w w') (hn : ∀ j, VB base w j → ¬ Z j) : RM w' base v vr vd vp ps M L S X := by
  obtain ⟨k0, k1, k2, k3⟩ := h.rs.keeps hk hn
  refine ⟨k0, k1, k2, fun x hx => ?_, h.2.2.2.2⟩
  obtain ⟨h1, h2⟩ := h.2.2.2.1 x hx
  refine ⟨h1, h2.keeps hk (hn _ ?_)⟩
  obtain ⟨cur, hc, _⟩ := h2
  exact ⟨h1, cur, _, _, hc, .inr (.inr rfl)⟩
theorem RM.below {w w' : World} {base v : Nat} {vr vd vp : Value} {ps : List (Int × Nat)} {M : Nat → Nat} {L S X : Nat} (h : RM w base v vr vd vp ps M L S X) (hb : Below w.heap.size w w') : RM w' base v vr vd vp ps M L S X := h.keeps (Keeps.of_below (S := fun _ => False) hb) (fun _ _ h => h)
theorem nodup_fst {ps : List (Int × Nat)} (h : (ps.map Prod.fst).Nodup) {x y : Int × Nat} (hx : x ∈ ps) (hy : y ∈ ps) (e : x.1 = y.1) : x = y := by
  induction ps with
  | nil => simp at hx
  | cons z l ih =>
    rw [List.map_cons, List.nodup_cons] at h
    rcases List.mem_cons.1 hx with rfl | hx'
    · rcases List.mem_cons.1 hy with rfl | hy
      · rfl
      · exact absurd (e ▸ List.mem_map_of_mem hy) h.1
    · rcases List.mem_cons.1 hy with rfl | hy
      · exact absurd (e ▸ List.mem_map_of_mem hx') h.1
      · exact ih h.2 hx' hy
theorem nodup_snd {ps : List (Int × Nat)} (h : (ps.map Prod.snd).Nodup) {x y : Int × Nat} (hx : x ∈ ps) (hy : y ∈ ps) (e : x.2 = y.2) : x = y := by
  induction ps with
  | nil => simp at hx
  | cons z l ih =>
    rw [List.map_cons, List.nodup_cons] at h
    rcases List.mem_cons.1 hx with rfl | hx'
    · rcases List.mem_cons.1 hy with rfl | hy
      · rfl
      · exact absurd (e ▸ List.mem_map_of_mem hy) h.1
    · rcases List.mem_cons.1 hy with rfl | hy
      · exact absurd (e ▸ List.mem_map_of_mem hx') h.1
      · exact ih h.2 hx' hy
theorem put_one (M : Nat → Nat) (a z p : Nat) : putAt M a [z] p = if p = a then z else M p := by
  by_cases e : p = a
  · subst e
    have := putAt_in M p [z] 0 (by simp)
    simpa using this
  · rw [if_neg e]
    exact putAt_out M a [z] p (by simp; omega)
/-- a byte of a page is written -/
theorem RM.write {w : World} {base v : Nat} {vr vd vp : Value} {ps : List (Int × Nat)} {M : Nat → Nat} {L S X : Nat} (h : RM w base v vr vd vp ps M L S X) {x : Int × Nat} (hx : x ∈ ps) {t z : Nat} (ht : t < 4096) (hz : z < 256) : RM (w.setCell ⟨x.2, t, none⟩ (.int .u8 (z : Int))) base v vr vd vp ps (putAt M (x.1.toNat * 4096 + t) [z]) L S X := by
  obtain ⟨k0, k1, k2, k3⟩ := h.rs.write (h.rs.2.2.2 x hx).2 t z hz
  refine ⟨k0, k1, k2, fun y hy => ⟨(k3 y hy).1, ?_⟩, h.pn, h.2.2.2.2.2.1, fun p => ?_, fun p hp => ?_⟩
  · by_cases e : y.2 = x.2
    · obtain rfl := nodup_snd h.2.2.2.2.2.1 hy hx e
      refine ((h.2.2.2.1 y hx).2.set t z).congr fun i hi => ?_
      rw [put_one]
      by_cases ei : i = t
      · rw [if_pos ei, if_pos (by omega)]
      · rw [if_neg ei, if_neg (by omega)]
    · refine ((h.2.2.2.1 y hy).2.keeps (Keeps.setCell w x.2 t _) e).congr fun i hi => ?_
      rw [put_one, if_neg]
      intro hh
      have h1 := h.pn.2 x hx
      have h2 := h.pn.2 y hy
      exact e (congrArg Prod.snd (nodup_fst h.pn.1 hy hx (by omega)))
  · rw [put_one]
    split
    · exact hz
    · exact h.2.2.2.2.2.2.1 p
  · rw [put_one, if_neg]
    · exact h.2.2.2.2.2.2.2 p hp
    · intro hh
      have h1 := h.pn.2 x hx
      exact hp x hx (by omega)
/-- a page of zeros is added -/
theorem RM.app {w w2 : World} {base v : Nat} {vr vd vp v2 : Value} {ps : List (Int × Nat)} {M : Nat → Nat} {L S X : Nat} (h : RM w base v vr vd vp ps M L S X) (hb : base ≤ w.heap.size) (pg : Nat) (hpg : pg ≤ 2097152) (hnew : ∀ x ∈ ps, x.1 ≠ (pg : Int)) (ho : OwnP w2 base v2 (ps ++ [((pg : Int), w.heap.size)])) (hg : (W2 w (pg : Int)).grownBy w2 vp.ownBlock) :
    RM (w2.setCell ⟨v, 2, none⟩ v2) base v vr vd v2 (ps ++ [((pg : Int), w.heap.size)]) M L S X ∧ Kv base w (w2.setCell ⟨v, 2, none⟩ v2) ∧ (∀ g n f, P8 w g n f → P8 (w2.setCell ⟨v, 2, none⟩ v2) g n f) ∧ w2.cell? ⟨v, 2, none⟩ = some vp ∧ w2.frozen? ⟨v, 2, none⟩ = false ∧ base ≤ (w2.setCell ⟨v, 2, none⟩ v2).heap.size := by
  obtain ⟨⟨r0, r1, r2, r3⟩, kv, _, c2, f2, s2⟩ := h.rs.app hb (pg : Int) ho hg
  have hvb : ∀ k, vp.ownBlock = some k → base ≤ k ∧ ∃ cur, w.heap[k]? = some (.cells cur 89 (0, 0)) := by
    obtain ⟨_, _, _, _, _, hf⟩ := h.2.2.1.form
    exact hf
  have b1 := h.2.1
  have kk : Keeps (fun j => vp.ownBlock = some j ∨ j = v) w (w2.setCell ⟨v, 2, none⟩ v2) := (((W2.keeps w (pg : Int)).mono (S' := fun j => vp.ownBlock = some j ∨ j = v) fun _ _ e => e.elim).trans ((Keeps.of_grown hg).mono (S' := fun j => vp.ownBlock = some j ∨ j = v) fun _ _ e => .inl e) fun _ _ e => e).trans (Keeps.setCell w2 v 2 v2) fun _ _ e => .inr e
  have u0 : ∀ g n f, P8 w g n f → P8 (w2.setCell ⟨v, 2, none⟩ v2) g n f := fun g n f hu => hu.keeps kk (fun e => by
    obtain ⟨cur', hc', _⟩ := hu
    rcases e with e | e
    · obtain ⟨_, cur, hc⟩ := hvb g e
      rw [hc] at hc'
      cases hc'
    · rw [e, show w.heap[v]? = _ from b1] at hc'
      cases hc')
  refine ⟨⟨r0, r1, r2, fun x hx => ⟨(r3 x hx).1, ?_⟩, h.pn.add _ hnew ⟨by omega, by omega⟩, ?_, h.2.2.2.2.2.2.1, fun p hp => h.2.2.2.2.2.2.2 p fun x hx => hp x (List.mem_append.2 (.inl hx))⟩, kv, u0, c2, f2, s2⟩
  · rcases List.mem_append.1 hx with hx | hx
    · exact u0 _ _ _ (h.2.2.2.1 x hx).2
    · obtain rfl := List.mem_singleton.1 hx
      have hz : P8 (W2 w (pg : Int)) w.heap.size 4096 (fun i => M ((pg : Int).toNat * 4096 + i)) := by
        refine ⟨zc, ?_, fun i hi => ?_⟩
        · show ((w.heap.push _).push _)[w.heap.size]? = _
          rw [Array.getElem?_push, if_neg (by simp), Array.getElem?_push_size]
        · show _ = some (Value.int .u8 ((M ((pg : Int).toNat * 4096 + i) : Nat) : Int))
          rw [zc_get i hi, h.2.2.2.2.2.2.2 _ fun x hx => ?_]
          have := hnew x hx
          intro e
          exact this (e.trans (by omega))
      refine (hz.keeps (Keeps.of_grown hg) (fun e => ?_)).keeps (Keeps.setCell w2 v 2 v2) (fun e => ?_)
      · obtain ⟨_, cur, hc⟩ := hvb _ e
        have := (Array.getElem?_eq_some_iff.1 hc).1
        omega
      · have e : w.heap.size = v := e
        have := b1.lt
        omega
  · rw [List.map_append, List.nodup_append]
    refine ⟨h.2.2.2.2.2.1, by simp, fun a ha b hb e => ?_⟩
    obtain ⟨x, hx, rfl⟩ := List.mem_map.1 ha
    simp only [List.map_cons, List.map_nil, List.mem_singleton] at hb
    have := (h.2.2.2.1 x hx).2.lt
    omega
set_option maxHeartbeats 2000000 in
theorem rfind_at {w : World} {base v : Nat} {vr vd vp : Value} {ps : List (Int × Nat)} {L S X : Nat} {k : Int} (h : RS w base v vr vd vp ps L S X) (hl : ps.length ≤ 1099511627776) : Calls Tryz.prog 87 #[.pointer (some ⟨v, 0, none⟩), .int .u64 k] w fun e w' => ∃ j : Int, e = .returned (.int .i64 j) ∧ Hid ((j = -1 ∧ ∀ x ∈ ps, x.1 ≠ k) ∨ ∃ i : Nat, j = (i : Int) ∧ ∃ hi : i < ps.length, (ps[i]'hi).1 = k) ∧ w = w' := by
  obtain ⟨h0, h1, h2, h3⟩ := h
  obtain ⟨_, _, c2, _, _, _⟩ := h1.cells
  obtain ⟨a, c, rfl, hc1, hc2, _⟩ := h2.form
  have HC := Lib.hid (fun j hj => h2.cell j hj)
  unfold maxLen at hc2
  obtain ⟨N, hN⟩ : ∃ N, N = ps.length := ⟨_, rfl⟩
  rw [← hN] at c2 hc1 hl
  have HN : Hid (N = ps.length) := hN
  clear h0 h1 h2 h3 hN
  go_enter Tryz.func87, Tryz.ntmps87
  go_wp2_with fail
  go_loop [5] (fun iv => ∃ q : Nat, q ≤ N ∧ iv = .int .i64 (q : Int) ∧ Hid (∀ x ∈ ps.take q, x.1 ≠ k)) (fun iv => N - (intOf iv).toNat)
  case atStart => exact ⟨0, Nat.zero_le _, rfl, by simp [Hid]⟩
  case round =>
    obtain ⟨q, hq, rfl, HQ⟩ := hrel
    by_cases hlt : q < N
    · obtain ⟨g, rfl, d0, d1⟩ := HC.out q (by rw [← HN.out]; exact hlt)
      have HT : Hid (ps[q].1 ≠ k → ∀ x ∈ ps.take (q + 1), x.1 ≠ k) := fun hne x hx => by
        rw [List.take_add_one, List.getElem?_eq_getElem (by rw [← HN.out]; exact hlt)] at hx
        rcases List.mem_append.1 hx with hx | hx
        · exact HQ.out x hx
        · rw [List.mem_singleton.1 hx]; exact hne
      obtain ⟨x, hx⟩ : ∃ x, x = (ps[q]'(by rw [← HN.out]; exact hlt)).1 := ⟨_, rfl⟩
      have HX : Hid (x = (ps[q]'(by rw [← HN.out]; exact hlt)).1) := hx
      rw [← hx] at d0
      clear hx
      have qi : (q : Int) < (N : Int) := by omega
      by_cases e : x = k
      · subst e
        go_wp2_with fail
        go_ret
        exact ⟨q, rfl, .inr ⟨q, rfl, by rw [← HN.out]; exact hlt, HX.out.symm⟩, rfl⟩
      · have he : (x == k) = false := by simpa using e
        go_wp2_with fail
        go_round
        case rel => exact ⟨q + 1, by omega, by go_num, HT.out (HX.out ▸ e)⟩
        case measure => simp [intOf]; omega
    · go_wp2_with fail
      go_ret
      exact ⟨-1, rfl, .inl ⟨rfl, by have h := HQ.out; rw [show q = ps.length by rw [← HN.out]; omega, List.take_length] at h; first | exact h | exact fun a b hab => h (a, b) hab⟩, rfl⟩
end Go.Proofs.YtddgoncbdlhhhaaGreat
