/- Lanes: a slot row that is being made. Own work. -/
import Derived.Test.YtkhlkbgolonkkaaLnMem
namespace Go.Proofs.Ytkhlkbgolonkkaa
open Go.RowKit
/-- a row that is being made: its block, its slots -/
structure Rw (w : World) (k base : Nat) (v : Value) (xs : List S3) : Prop where
  blk : w.heap[k]? = some (.cells #[v] 70 (0, 0))
  own : OwnS w base v xs
  ge : base ≤ k
  ne : v.ownBlock ≠ some k
theorem Rw.cell {w : World} {k base : Nat} {v : Value} {xs : List S3} (h : Rw w k base v xs) : w.cell? ⟨k, 0, none⟩ = some v := by rw [cell_of_row _ _ _ _ _ _ h.blk]; rfl
theorem Rw.lt {w : World} {k base : Nat} {v : Value} {xs : List S3} (h : Rw w k base v xs) : k < w.heap.size := (Array.getElem?_eq_some_iff.1 h.blk).1
theorem Rw.thawed {w : World} {k base : Nat} {v : Value} {xs : List S3} (h : Rw w k base v xs) (i : Nat) : w.frozen? ⟨k, i, none⟩ = false := by simp [World.frozen?, h.blk]
theorem OwnS.thawed {w : World} {base g cap n : Nat} {xs : List S3} (h : OwnS w base (.slice (some ⟨g, 0, none⟩) n cap) xs) (i : Nat) : w.frozen? ⟨g, i, none⟩ = false := by
  rcases h.2 with ⟨e, _⟩ | ⟨g', c', cur, e, hb, hg, _⟩
  · cases e
  · simp only [Value.slice.injEq, Option.some.injEq, Addr.mk.injEq] at e
    obtain ⟨⟨rfl, _⟩, _, _⟩ := e
    simp [World.frozen?, hg]
theorem OwnS.pos {w : World} {base : Nat} {v : Value} {xs : List S3} (h : OwnS w base v xs) (hp : 0 < xs.length) : ∃ g cap, v = .slice (some ⟨g, 0, none⟩) xs.length cap ∧ base ≤ g ∧ g < w.heap.size ∧ xs.length ≤ cap ∧ cap ≤ maxLen := by
  rcases h.2 with ⟨_, h0⟩ | ⟨g, cap, cur, rfl, hb, hg, h1, h2, _⟩
  · omega
  · exact ⟨g, cap, rfl, hb, (Array.getElem?_eq_some_iff.1 hg).1, h1, h2⟩
set_option maxRecDepth 100000 in
set_option maxHeartbeats 1000000 in
theorem end_nil {w : World} {k : Nat} (h : w.cell? ⟨k, 0, none⟩ = some (.slice none 0 0)) : Calls Try.prog 36 #[.pointer (some ⟨k, 0, none⟩)] w fun e w' => e = .returned (.int .i64 0) ∧ w' = w := by
  go_enter Try.func36, Try.ntmps36
  go_wp2_with fail
  go_ret
  exact ⟨rfl, rfl⟩
set_option maxRecDepth 100000 in
set_option maxHeartbeats 1000000 in
theorem end_some {w : World} {k g m n cap : Nat} {t : Int} (h : w.cell? ⟨k, 0, none⟩ = some (.slice (some ⟨g, 0, none⟩) m cap)) (hmn : m = n + 1) (hc : m ≤ cap) (hm : cap ≤ maxLen) (ht : w.cell? ⟨g, n * 3 + 2, none⟩ = some (.int .i64 t)) : Calls Try.prog 36 #[.pointer (some ⟨k, 0, none⟩)] w fun e w' => e = .returned (.int .i64 t) ∧ w' = w.drew := by
  unfold maxLen at hm
  have hw : IntKind.i64.wrap ((m : Int) - 1) = (n : Int) := by rw [IntKind.wrap_i64]; omega
  have hn : (m : Int) ≠ 0 := by omega
  have j1 : (n : Int) < (m : Int) := by omega
  have j0 : (0 : Int) ≤ (n : Int) := by omega
  clear hmn
  go_enter Try.func36, Try.ntmps36
  go_wp2_with fail
  go_region_held3 (fun w' => w'.cell? ⟨k, 0, none⟩ = some (.slice (some ⟨g, 0, none⟩) m cap) ∧ w'.cell? ⟨g, n * 3 + 2, none⟩ = some (.int .i64 t)) (go_keep) (fail)
  all_goals
    go_wp2_with fail
    go_ret
    exact ⟨rfl, rfl⟩
def endF (xs : List S3) : Int := match xs.getLast? with | some l => l.t | none => 0
/-- a subject runs for so many ticks more -/
def addF (xs : List S3) (s : ByteArray) (n : Int) : List S3 :=
  if n = 0 then xs else match xs.getLast? with
  | some l => if l.s = s then xs.dropLast ++ [⟨l.s, l.f, l.t + n⟩] else xs ++ [⟨s, l.t, l.t + n⟩]
  | none => [⟨s, 0, n⟩]
theorem keeps_drew1 (w : World) : Keeps (fun _ => False) w w.drew := (Keeps.refl _ _).drew
theorem OwnS.drew {w : World} {base : Nat} {v : Value} {xs : List S3} (h : OwnS w base v xs) : OwnS w.drew base v xs := h
theorem Rw.drew {w : World} {k base : Nat} {v : Value} {xs : List S3} (h : Rw w k base v xs) : Rw w.drew k base v xs := ⟨h.blk, h.own, h.ge, h.ne⟩
set_option maxRecDepth 100000 in
set_option maxHeartbeats 1000000 in
theorem add_zero (k : Nat) (s : ByteArray) (w : World) : Calls Try.prog 35 #[.pointer (some ⟨k, 0, none⟩), .string s, .int .i64 0] w fun e w' => e = .returned (.tuple #[]) ∧ w' = w := by
  go_enter Try.func35, Try.ntmps35
  go_wp2_with fail
  refine bodyPost_ret (results_none rfl _ _ _) rfl ?_
  exact ⟨rfl, rfl⟩
/-- the last slot grows -/
theorem OwnS.grow {w : World} {base g m cap : Nat} {ys : List S3} {l : S3} {u : Int} (h : OwnS w base (.slice (some ⟨g, 0, none⟩) m cap) (ys ++ [l])) : OwnS (w.setCell ⟨g, ys.length * 3 + 2, none⟩ (.int .i64 u)) base (.slice (some ⟨g, 0, none⟩) m cap) (ys ++ [⟨l.s, l.f, u⟩]) := by
  refine ⟨by rw [enc3s_length], ?_⟩
  rcases h.2 with ⟨e, _⟩ | ⟨g', c', cur, e, hb, hg, h1, h2, hs, ht⟩
  · cases e
  · simp only [Value.slice.injEq, Option.some.injEq, Addr.mk.injEq] at e
    obtain ⟨⟨rfl, _⟩, hm, rfl⟩ := e
    have hl : (ys ++ [(⟨l.s, l.f, u⟩ : S3)]).length = (ys ++ [l]).length := by simp
    refine .inr ⟨g, cap, cur.setIfInBounds (ys.length * 3 + 2) (.int .i64 u), by rw [hl, hm], hb, ?_, by rw [hl]; exact h1, h2, by simpa using hs, ?_⟩
    · simp [World.setCell, Array.getElem?_modify, hg]
    · rw [hl, Array.toList_setIfInBounds, List.take_set, ht, enc3s_append, enc3s_append, List.set_append_right _ _ (by rw [enc3s_length]; omega), enc3s_length]
      rw [show ys.length * 3 + 2 - ys.length * 3 = 2 by omega]
      rfl
set_option maxRecDepth 100000 in
set_option maxHeartbeats 4000000 in
theorem add_grow {w : World} {k base : Nat} {v : Value} {ys : List S3} {l : S3} {n : Int} (h : Rw w k base v (ys ++ [l])) (hn : n ≠ 0) (hw : IntKind.i64.wrap (l.t + n) = l.t + n) :
    Calls Try.prog 35 #[.pointer (some ⟨k, 0, none⟩), .string l.s, .int .i64 n] w fun e w' => e = .returned (.tuple #[]) ∧ ∃ v', Rw w' k base v' (ys ++ [⟨l.s, l.f, l.t + n⟩]) ∧ Below base w w' := by
  obtain ⟨g, cap, rfl, hg1, hg2, hc, hm⟩ := h.own.pos (by simp)
  have hlen : (ys ++ [l]).length = ys.length + 1 := by simp
  obtain ⟨m, hmm⟩ : ∃ m, m = (ys ++ [l]).length := ⟨_, rfl⟩
  rw [← hmm] at h hc
  obtain ⟨q, hq⟩ : ∃ q, q = ys.length := ⟨_, rfl⟩
  have x0 := h.cell
  have xf := h.thawed 0
  have gl : (ys ++ [l])[q]'(by omega) = l := by simp [hq]
  have c0 := h.own.cell q 0 (by omega) (by omega)
  have c1 := h.own.cell q 1 (by omega) (by omega)
  have c2 := h.own.cell q 2 (by omega) (by omega)
  rw [gl] at c0 c1 c2
  simp only [enc3, List.getElem?_cons_zero, List.getElem?_cons_succ, Nat.add_zero] at c0 c1 c2
  have gf := h.own.thawed (q * 3 + 2)
  have HE := Lib.hid (end_some (w := w.drew) (n := q) x0 (by omega) hc hm c2)
  have HW := Lib.hid h
  have hwm : IntKind.i64.wrap ((m : Int) - 1) = (q : Int) := by rw [IntKind.wrap_i64]; unfold maxLen at hm; omega
  have j1 : (q : Int) < (m : Int) := by omega
  have j0 : (0 : Int) ≤ (q : Int) := by omega
  have HQ : Hid (q = ys.length) := hq
  have hgk : g ≠ k := fun e => h.ne (by rw [← e]; rfl)
  clear h hmm hlen gl hq
  obtain ⟨ls, lf, lt⟩ := l
  simp only at hw c0 c1 c2 HE HW ⊢
  go_enter Try.func35, Try.ntmps35
  go_wp2_with fail
  go_region_held3 (fun w' => w'.cell? ⟨k, 0, none⟩ = some (.slice (some ⟨g, 0, none⟩) m cap)) (go_keep) (first | (go_at_call 36; refine HE.out.mono ?_; rintro e w5 ⟨rfl, hw5⟩; subst hw5))
  all_goals
    go_wp2_with fail
    refine bodyPost_ret (results_none rfl _ _ _) rfl ⟨rfl, _, ⟨?_, ?_, HW.out.ge, HW.out.ne⟩, ?_⟩
    · exact (Below.heap_setCell w ⟨g, q * 3 + 2, none⟩ (.int .i64 (lt + n)) k (fun e => hgk e.symm)).trans HW.out.blk
    · have h := HW.out.own.grow (u := lt + n)
      rw [← HQ.out] at h
      exact h
    · exact ((Below.refl _ _).setCell hg1 _).drew.drew
theorem wpList_append3 {w : World} {base : Nat} {ops : Array Oper} {rest : List Oper} {o : Oper} {a : Act} {Q : Exit → Act → World → Prop} (hgd : o.guard = none) (s x : Operand)
    (ho : o.op = .call { callee := .builtin .append, args := #[s, x], argTypes := #[70, 70] }) {v : Value} {xs : List S3} {t : S3} {g cap : Nat} (hown : OwnS w base v xs) (hs : a.eval s = v) (hx : a.eval x = .slice (some ⟨g, 0, none⟩) 1 cap) (hg : B3 w g t) (hb : xs.length ≤ 1048576) (hbase : base ≤ w.heap.size)
    (h : ∀ va vc w', Hid (OwnS w' base (.slice va (xs.length + 1) vc) (xs ++ [t])) → Hid (w.grownBy w' v.ownBlock) → Hid ((Value.slice va (xs.length + 1) vc).ownBlock = v.ownBlock ∨ (Value.slice va (xs.length + 1) vc).ownBlock = some w.heap.size) → wpList Try.prog ops Q rest (a.put o.dst (.slice va (xs.length + 1) vc)) w') : wpList Try.prog ops Q (o :: rest) a w :=
  wpList_plain hgd fun K hK => by
    obtain ⟨v', w', hr, h2, h3, h4⟩ := run_append3 70 o.type Try.underlying70 hown hg hb hbase (cap := cap)
    obtain ⟨va, vc, rfl⟩ := h2.form
    rw [List.length_append, List.length_singleton] at hr h2 h4
    unfold Oper.wp execOp
    simp only [ho, resolve, invoke, builtin, Sem.run_bind, Sem.run_pure, Result.andThen_ok, List.map_toArray, List.map_cons, List.map_nil, hs, hx, hr]
    exact hK _ _ (h va vc w' h2 h3 h4)
/-- the book-keeping behind an append -/
theorem Rw.app {w W1 w2 : World} {k base : Nat} {v v2 : Value} {xs zs : List S3} (h : Rw w k base v xs) (hb : base ≤ w.heap.size) (kW : Keeps (fun _ => False) w W1) (ho : OwnS w2 base v2 zs) (hg : W1.grownBy w2 v.ownBlock) (hl : v2.ownBlock = v.ownBlock ∨ v2.ownBlock = some W1.heap.size) : Rw (w2.setCell ⟨k, 0, none⟩ v2) k base v2 zs ∧ Below base w (w2.setCell ⟨k, 0, none⟩ v2) ∧ w2.cell? ⟨k, 0, none⟩ = some v ∧ w2.frozen? ⟨k, 0, none⟩ = false := by
  have hk1 : W1.heap[k]? = w.heap[k]? := kW.block k h.lt id
  have hkl : k < W1.heap.size := Nat.lt_of_lt_of_le h.lt kW.size
  have hk2 : w2.heap[k]? = some (.cells #[v] 70 (0, 0)) := (hg.block k hkl (fun e => h.ne e.symm)).trans (hk1.trans h.blk)
  have hne : v2.ownBlock ≠ some k := by
    rcases hl with e | e
    · rw [e]; exact h.ne
    · rw [e]; intro e2; cases e2; omega
  refine ⟨⟨?_, ho.keeps (Keeps.setCell w2 k 0 v2) (fun j hj e => hne (by subst e; exact hj)), h.ge, hne⟩, ?_, by rw [cell_of_row _ _ _ _ _ _ hk2]; rfl, by simp [World.frozen?, hk2]⟩
  · simp [World.setCell, Array.getElem?_modify, hk2]
  · exact (((kW.below hb (fun _ _ e => e.elim)).grown hg (Nat.le_trans hb kW.size) (fun j hj => (h.own.lt j hj).1))).setCell h.ge _
set_option maxRecDepth 100000 in
set_option maxHeartbeats 4000000 in
theorem add_first {w : World} {k base : Nat} {s : ByteArray} {n : Int} (h : Rw w k base (.slice none 0 0) []) (hb : base ≤ w.heap.size) (hn0 : 0 < n) (hn1 : n ≤ 65536) :
    Calls Try.prog 35 #[.pointer (some ⟨k, 0, none⟩), .string s, .int .i64 n] w fun e w' => e = .returned (.tuple #[]) ∧ ∃ v', Rw w' k base v' [⟨s, 0, n⟩] ∧ Below base w w' := by
  have x0 := h.cell
  have HE := Lib.hid (end_nil (w := w.drew) x0)
  have HW := Lib.hid h
  have HA : Hid (∀ W, OwnS W base (.slice none 0 0) []) := fun W => OwnS.nil _ _
  have hn : n ≠ 0 := by omega
  have HB : Hid (B3 (w.alloc (.cells #[.string s, .int .i64 0, .int .i64 n] 37)).drew w.heap.size ⟨s, 0, n⟩) := Array.getElem?_push_size (xs := w.heap)
  clear h
  go_enter Try.func35, Try.ntmps35
  go_wp2_with fail
  go_region_held3 (fun w' => w'.cell? ⟨k, 0, none⟩ = some (.slice none 0 0)) (go_keep) (first | (go_at_call 36; refine HE.out.mono ?_; rintro e w5 ⟨rfl, hw5⟩; subst hw5))
  all_goals
    go_wp2_with (at_builtin; refine wpList_append3 rfl (.tmp 44) (.tmp 51) rfl (HA.out _) rfl rfl HB.out (by simp) (by simp; omega) ?_; intro va vc w2 HO2 HG2 HL2; obtain ⟨hr2, hb2, hc2, hf2⟩ := HW.out.app hb (Keeps.alloc (S := fun _ => False) w _).drew HO2.out HG2.out HL2.out; have HR2 := Lib.hid hr2; have HB2 := Lib.hid hb2; clear hr2 hb2)
    go_end0
    exact ⟨rfl, _, HR2.out, HB2.out⟩
set_option maxRecDepth 100000 in
set_option maxHeartbeats 4000000 in
theorem add_next {w : World} {k base : Nat} {v : Value} {ys : List S3} {l : S3} {s : ByteArray} {n : Int} (h : Rw w k base v (ys ++ [l])) (hb : base ≤ w.heap.size) (hn0 : 0 < n) (hn1 : n ≤ 65536) (hl0 : 0 ≤ l.t) (hl1 : l.t ≤ 65536) (hs : (l.s.toList == s.toList) = false) (hlen : ys.length ≤ 100000) :
    Calls Try.prog 35 #[.pointer (some ⟨k, 0, none⟩), .string s, .int .i64 n] w fun e w' => e = .returned (.tuple #[]) ∧ ∃ v', Rw w' k base v' (ys ++ [l] ++ [⟨s, l.t, l.t + n⟩]) ∧ Below base w w' := by
  obtain ⟨g, cap, rfl, hg1, hg2, hc, hm⟩ := h.own.pos (by simp)
  have hlen2 : (ys ++ [l]).length = ys.length + 1 := by simp
  obtain ⟨m, hmm⟩ : ∃ m, m = (ys ++ [l]).length := ⟨_, rfl⟩
  rw [← hmm] at h hc
  obtain ⟨q, hq⟩ : ∃ q, q = ys.length := ⟨_, rfl⟩
  have x0 := h.cell
  have gl : (ys ++ [l])[q]'(by omega) = l := by simp [hq]
  have c0 := h.own.cell q 0 (by omega) (by omega)
  have c2 := h.own.cell q 2 (by omega) (by omega)
  rw [gl] at c0 c2
  simp only [enc3, List.getElem?_cons_zero, List.getElem?_cons_succ, Nat.add_zero] at c0 c2
  have HE := Lib.hid (end_some (w := w.drew) (n := q) x0 (by omega) hc hm c2)
  have HW := Lib.hid h
  have hwm : IntKind.i64.wrap ((m : Int) - 1) = (q : Int) := by rw [IntKind.wrap_i64]; unfold maxLen at hm; omega
  have j1 : (q : Int) < (m : Int) := by omega
  have j0 : (0 : Int) ≤ (q : Int) := by omega
  have hL : Hid ((ys ++ [l]).length ≤ 1048576) := (by omega : (ys ++ [l]).length ≤ 1048576)
  obtain ⟨ls, lf, lt⟩ := l
  simp only at hl0 hl1 hs c0 c2 HE HW ⊢
  have HA : Hid (∀ X, OwnS (w.alloc X).drew.drew base (.slice (some ⟨g, 0, none⟩) m cap) (ys ++ [⟨ls, lf, lt⟩])) := fun X => HW.out.own.below (((Below.refl _ _).alloc (Nat.le_refl _) _).drew.drew)
  have HB : Hid (B3 (w.alloc (.cells #[.string s, .int .i64 lt, .int .i64 (lt + n)] 37)).drew.drew w.heap.size ⟨s, lt, lt + n⟩) := Array.getElem?_push_size (xs := w.heap)
  have hn : n ≠ 0 := by omega
  have HML : Hid ((ys ++ [(⟨ls, lf, lt⟩ : S3)]).length = m) := hmm.symm
  clear h hmm hlen2 gl hq hlen
  generalize ys ++ [(⟨ls, lf, lt⟩ : S3)] = xs at *
  go_enter Try.func35, Try.ntmps35
  go_wp2_with fail
  go_region_held3 (fun w' => w'.cell? ⟨k, 0, none⟩ = some (.slice (some ⟨g, 0, none⟩) m cap)) (go_keep) (first | (go_at_call 36; refine HE.out.mono ?_; rintro e w5 ⟨rfl, hw5⟩; subst hw5))
  all_goals
    go_wp2_with (at_builtin; refine wpList_append3 rfl (.tmp 44) (.tmp 51) rfl (HA.out _) rfl rfl HB.out hL.out (by simp; omega) ?_; intro va vc w2 HO2 HG2 HL2; obtain ⟨hr2, hb2, hc2, hf2⟩ := HW.out.app hb (Keeps.alloc (S := fun _ => False) w _).drew.drew HO2.out HG2.out HL2.out; have HR2 := Lib.hid hr2; have HB2 := Lib.hid hb2; clear hr2 hb2)
    go_end0
    exact ⟨rfl, _, HR2.out, HB2.out⟩
end Go.Proofs.Ytkhlkbgolonkkaa
