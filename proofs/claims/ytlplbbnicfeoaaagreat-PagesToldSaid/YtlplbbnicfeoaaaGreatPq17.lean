import Derived.Test.YtlplbbnicfeoaaaGreatPq16
import Derived.BigQuiet
import Derived.BigRegion
/- How many points there are; the longest span. Plain mathematics. Own work. -/
namespace Go.Proofs.YtlplbbnicfeoaaaGreat.Sp

/-- How many points. -/
def tot : List Sp → Int
  | [] => 0
  | x :: r => (x.2 - x.1 + 1) + tot r
theorem tot_append (xs ys : List Sp) : tot (xs ++ ys) = tot xs + tot ys := by
  induction xs with
  | nil => simp [tot]
  | cons x r ih => simp only [List.cons_append, tot, ih]; omega
theorem tot_le {m lo hi : Int} : ∀ {xs : List Sp}, Canon m xs → (∀ x ∈ xs, lo ≤ x.1 ∧ x.2 < hi) → lo ≤ hi → tot xs ≤ hi - lo
  | [], _, _, h => by simp only [tot]; omega
  | x :: r, hc, hb, h => by
    have hx := hb x (by simp)
    have cx := (canon_cons.1 hc)
    have ih := tot_le (lo := x.2 + 1) (hi := hi) hc.tail (fun y hy => ⟨by have := cx.2.1 y hy; omega, (hb y (by simp [hy])).2⟩) (by omega)
    simp only [tot]
    omega
theorem tot_nonneg {m : Int} {xs : List Sp} (h : Canon m xs) : 0 ≤ tot xs := by
  induction xs with
  | nil => exact Int.le_refl _
  | cons x r ih =>
    have := (canon_cons.1 h).1
    have := ih h.tail
    simp only [tot]; omega
theorem tot_take {xs : List Sp} {k : Nat} (h : k < xs.length) : tot (xs.take (k + 1)) = tot (xs.take k) + (xs[k].2 - xs[k].1 + 1) := by
  rw [List.take_succ_eq_append_getElem h, tot_append]
  simp only [tot]; omega
theorem canon_take {m : Int} {xs : List Sp} (h : Canon m xs) (k : Nat) : Canon m (xs.take k) := by
  have e : xs.take k ++ xs.drop k = xs := List.take_append_drop _ _
  rw [← e] at h
  exact (canon_append.1 h).1
/-- What lies ahead of a span is no more than its First. -/
theorem tot_ahead {m : Int} {xs : List Sp} (h : Canon m xs) {k : Nat} (hk : k < xs.length) : tot (xs.take k) ≤ xs[k].1 := by
  have e : xs.take k ++ xs.drop k = xs := List.take_append_drop _ _
  have h' := h
  rw [← e] at h'
  have hd := (canon_append.1 h').2.2
  have hb := h.1 xs[k] (List.getElem_mem _)
  have := tot_le (lo := 0) (hi := xs[k].1) (canon_take h k) (fun x hx => ⟨(h.1 x (List.mem_of_mem_take hx)).1, by
    have := hd x hx xs[k] (List.mem_drop_iff_getElem.2 ⟨0, by simpa using hk, by simp⟩)
    omega⟩) hb.1
  omega
/-- Size's answer. -/
def sizeB (xs : List Sp) : Int × Bool := if tot xs ≤ 18446744073709551615 then (tot xs, true) else (0, false)
/-- The longest. -/
def bigger (m x : Sp) : Sp := if m.2 - m.1 < x.2 - x.1 then x else m
def biggest (x : Sp) (r : List Sp) : Sp := r.foldl bigger x
theorem biggest_take {x : Sp} {r : List Sp} {k : Nat} (h : k < r.length) : biggest x (r.take (k + 1)) = bigger (biggest x (r.take k)) r[k] := by
  unfold biggest
  rw [List.take_succ_eq_append_getElem h, List.foldl_append]
  rfl

theorem biggest_mem (x : Sp) (r : List Sp) : biggest x r ∈ x :: r := by
  induction r generalizing x with
  | nil => simp [biggest]
  | cons y r ih =>
    have := ih (bigger x y)
    show biggest (bigger x y) r ∈ _
    rcases List.mem_cons.1 this with h | h
    · rw [h]
      unfold bigger
      split <;> simp
    · simp [h]
theorem biggest_in {m : Int} {x : Sp} {r : List Sp} (h : Canon m (x :: r)) (k : Nat) : 0 ≤ (biggest x (r.take k)).1 ∧ (biggest x (r.take k)).1 ≤ (biggest x (r.take k)).2 ∧ (biggest x (r.take k)).2 ≤ m := by
  refine h.1 _ ?_
  rcases List.mem_cons.1 (biggest_mem x (r.take k)) with e | e
  · rw [e]; simp
  · exact List.mem_cons_of_mem _ (List.mem_of_mem_take e)

/-- Touches' answer. -/
def touchesB (xs : List Sp) (x : Sp) : Bool := (nextB x.1 xs).2 && decide ((nextB x.1 xs).1 ≤ x.2)
theorem touchesB_iff {m : Int} {xs : List Sp} (h : Canon m xs) (x : Sp) : touchesB xs x = true ↔ ∃ p, x.1 ≤ p ∧ p ≤ x.2 ∧ In p xs := by
  unfold touchesB
  obtain ⟨n, b, hn⟩ : ∃ n b, nextB x.1 xs = (n, b) := ⟨_, _, rfl⟩
  rw [hn]
  cases b with
  | true =>
    obtain ⟨h1, h2, h3⟩ := nextB_some h hn
    simp only [Bool.true_and, decide_eq_true_eq]
    constructor
    · exact fun q => ⟨n, h1, q, h2⟩
    · rintro ⟨p, a, b, c⟩
      by_cases g : p < n
      · exact absurd c (h3 p a g)
      · omega
  | false =>
    obtain ⟨_, h2⟩ := nextB_none h hn
    simp only [Bool.false_and, Bool.false_eq_true, false_iff]
    rintro ⟨p, a, b, c⟩
    exact h2 p a c

theorem sure {P : Int → Prop} (h : ∀ q, P q) : true = true ↔ ∀ q, P q := ⟨fun _ => h, fun _ => rfl⟩
theorem prop2 {A B : Prop} : (A ∧ B) ↔ (A ∧ ¬ (A ∧ ¬ B)) := by by_cases a : A <;> by_cases b : B <;> simp [a, b]
theorem prop3 {A B C : Prop} : (A ∧ ¬ (B ∨ C)) ↔ ((A ∧ ¬ B) ∧ ¬ C) := by by_cases a : A <;> by_cases b : B <;> simp [a, b]
theorem prop4 {A B C : Prop} : (A ∧ (B ∨ C)) ↔ ((A ∧ B) ∨ (A ∧ C)) := by by_cases a : A <;> simp [a]
theorem prop5 {A B : Prop} : ((A ∧ ¬ B) ∨ (A ∧ B)) ↔ A := by by_cases a : A <;> by_cases b : B <;> simp [a, b]
theorem prop7 {A B : Prop} (h : A → B) : (B ∧ ¬ (B ∧ ¬ A)) ↔ A := by by_cases a : A <;> by_cases b : B <;> simp_all
theorem prop8 {A B : Prop} : ((B ∧ ¬ A) ∧ A) ↔ False := by by_cases a : A <;> simp [a]

end Go.Proofs.YtlplbbnicfeoaaaGreat.Sp
/- A machine in memory; what it tells by itself. Own work. -/
namespace Go.Proofs.YtlplbbnicfeoaaaGreat
open Go.RowKit Go.Maps Go.Proofs.YtlplbbnicfeoaaaGreat.Sp
theorem U64.SV.keeps {S : Nat → Prop} {w w' : World} {v : Value} {xs : List Sp} (h : U64.SV w v xs) (hk : Keeps S w w') (hn : ∀ j, v.ownBlock = some j → ¬ S j) : U64.SV w' v xs := by
  obtain ⟨ao, cap, rfl, h1, h2, h3, h4, h5⟩ := h
  refine ⟨ao, cap, rfl, h1, h2, h3, fun a e => (h4 a e).imp fun g ⟨off, e, hl⟩ => ⟨off, e, Nat.lt_of_lt_of_le hl hk.size⟩, fun j hj => ?_⟩
  obtain ⟨g, off, e, c0, c1⟩ := h5 j hj
  obtain ⟨g', off', e', hg⟩ := h4 _ e
  cases e'
  have hb : w'.heap[g]? = w.heap[g]? := hk.block g hg (hn g (by rw [e]; rfl))
  refine ⟨g, off, e, ?_, ?_⟩
  · rw [World.cell?_of_block (w := w) (a := ⟨g, off + j * 2, none⟩) hb]; exact c0
  · rw [World.cell?_of_block (w := w) (a := ⟨g, off + j * 2 + 1, none⟩) hb]; exact c1
/-- the byte p lies in one of the ranges -/
def On (rs : List Sp) (p : Int) : Prop := ∃ r ∈ rs, r.1 ≤ p ∧ p < r.1 + r.2
/-- ranges that a machine may have -/
def Sane (rs : List Sp) : Prop := ∀ r ∈ rs, 0 ≤ r.1 ∧ 0 < r.2 ∧ r.1 + r.2 ≤ 4294967296
/-- block m is a machine: what its meter tells, its lists, where its map and its pages lie, its bytes -/
def Mac (w : World) (m B : Nat) (V : Value × Value × Value) (T : Nat → Option Nat) (M : Nat → Nat) (rs ds : List Sp) (L S X : Nat) : Prop :=
  ∃ G, w.heap[m]? = some (.cells #[.int .i64 (L : Int), .int .i64 (S : Int), .int .i64 (X : Int), V.1, V.2.1, V.2.2, .map (some B)] 101 (0, 0)) ∧ U64.SV w V.1 rs ∧ U64.SV w V.2.1 ds ∧ U64.SV w V.2.2 G ∧
    Canon 18446744073709551615 G ∧ (∀ p, In p G ↔ On (rs ++ ds) p) ∧ Sane (rs ++ ds) ∧ G.length ≤ 64 ∧ Held w B T M ∧ ¬ Foot B T m ∧ ∀ v, v = V.1 ∨ v = V.2.1 ∨ v = V.2.2 → ∀ j, v.ownBlock = some j → ¬ Foot B T j ∧ j ≠ m
/-- the blocks that are the machine's own -/
def Mine (m B : Nat) (V : Value × Value × Value) (T : Nat → Option Nat) (j : Nat) : Prop := j = m ∨ Foot B T j ∨ ∃ v, (v = V.1 ∨ v = V.2.1 ∨ v = V.2.2) ∧ v.ownBlock = some j
theorem Mac.lt {w : World} {m B : Nat} {V : Value × Value × Value} {T : Nat → Option Nat} {M : Nat → Nat} {rs ds : List Sp} {L S X : Nat} (h : Mac w m B V T M rs ds L S X) : m < w.heap.size := by
  obtain ⟨_, h, _⟩ := h
  exact (Array.getElem?_eq_some_iff.1 h).1
theorem sv_lt {w : World} {v : Value} {xs : List Sp} (hv : U64.SV w v xs) (j : Nat) (hj : v.ownBlock = some j) : j < w.heap.size := by
  obtain ⟨ao, cap, rfl, _, _, _, hh, _⟩ := hv
  cases ao with
  | none => cases hj
  | some a =>
    obtain ⟨g, off, rfl, hg⟩ := hh _ rfl
    cases hj
    exact hg
theorem Mac.mine_lt {w : World} {m B : Nat} {V : Value × Value × Value} {T : Nat → Option Nat} {M : Nat → Nat} {rs ds : List Sp} {L S X : Nat} (h : Mac w m B V T M rs ds L S X) {j : Nat} (hj : Mine m B V T j) : j < w.heap.size := by
  have hlt := h.lt
  obtain ⟨G, h0, h1, h2, h3, h4, h5, h6, h7, h8, h9, h10⟩ := h
  rcases hj with rfl | hj | ⟨v, rfl | rfl | rfl, e⟩
  · exact hlt
  · exact h8.foot_lt hj
  · exact sv_lt h1 j e
  · exact sv_lt h2 j e
  · exact sv_lt h3 j e
theorem Mac.keeps {Z : Nat → Prop} {w w' : World} {m B : Nat} {V : Value × Value × Value} {T : Nat → Option Nat} {M : Nat → Nat} {rs ds : List Sp} {L S X : Nat} (h : Mac w m B V T M rs ds L S X) (hk : Keeps Z w w') (hn : ∀ j, Mine m B V T j → ¬ Z j) : Mac w' m B V T M rs ds L S X := by
  have hlt := h.lt
  obtain ⟨G, h0, h1, h2, h3, h4, h5, h6, h7, h8, h9, h10⟩ := h
  exact ⟨G, (hk.block m hlt (hn m (.inl rfl))).trans h0, h1.keeps hk (fun j e => hn j (.inr (.inr ⟨_, .inl rfl, e⟩))), h2.keeps hk (fun j e => hn j (.inr (.inr ⟨_, .inr (.inl rfl), e⟩))), h3.keeps hk (fun j e => hn j (.inr (.inr ⟨_, .inr (.inr rfl), e⟩))), h4, h5, h6, h7, h8.keeps hk (fun j hj => hn j (.inr (.inl hj))), h9, h10⟩
theorem Mac.below {w w' : World} {m B : Nat} {V : Value × Value × Value} {T : Nat → Option Nat} {M : Nat → Nat} {rs ds : List Sp} {L S X : Nat} (h : Mac w m B V T M rs ds L S X) (hb : Below w.heap.size w w') : Mac w' m B V T M rs ds L S X :=
  h.keeps (Keeps.of_below (S := fun _ => False) hb) (fun _ _ h => h)
/-- the pages have changed, the machine's own blocks have not -/
theorem Mac.laid {w w' : World} {m B : Nat} {V : Value × Value × Value} {T T' : Nat → Option Nat} {M M' : Nat → Nat} {rs ds : List Sp} {L S X : Nat} (h : Mac w m B V T M rs ds L S X) (hH : Held w' B T' M') (hk : Keeps (Foot B T) w w') (hG : Grows w.heap.size T T') : Mac w' m B V T' M' rs ds L S X := by
  have hlt := h.lt
  have hmine := fun j => h.mine_lt (j := j)
  obtain ⟨G, h0, h1, h2, h3, h4, h5, h6, h7, h8, h9, h10⟩ := h
  exact ⟨G, (hk.block m hlt h9).trans h0, h1.keeps hk (fun j e => (h10 _ (.inl rfl) j e).1), h2.keeps hk (fun j e => (h10 _ (.inr (.inl rfl)) j e).1), h3.keeps hk (fun j e => (h10 _ (.inr (.inr rfl)) j e).1), h4, h5, h6, h7, hH, fun hf => h9 (hG.foot hf hlt), fun v hv j e => ⟨fun hf => (h10 v hv j e).1 (hG.foot hf (hmine j (.inr (.inr ⟨v, hv, e⟩)))), (h10 v hv j e).2⟩⟩
/-- only the machine's own block has changed, and in it only the meter -/
theorem Mac.recount {w w' : World} {m B : Nat} {V : Value × Value × Value} {T : Nat → Option Nat} {M : Nat → Nat} {rs ds : List Sp} {L S X L' S' X' : Nat} (h : Mac w m B V T M rs ds L S X) (hk : Keeps (fun j => j = m) w w')
    (hm : w.heap[m]? = some (.cells #[.int .i64 (L : Int), .int .i64 (S : Int), .int .i64 (X : Int), V.1, V.2.1, V.2.2, .map (some B)] 101 (0, 0)) → w'.heap[m]? = some (.cells #[.int .i64 (L' : Int), .int .i64 (S' : Int), .int .i64 (X' : Int), V.1, V.2.1, V.2.2, .map (some B)] 101 (0, 0))) : Mac w' m B V T M rs ds L' S' X' := by
  obtain ⟨G, h0, h1, h2, h3, h4, h5, h6, h7, h8, h9, h10⟩ := h
  exact ⟨G, hm h0, h1.keeps hk (fun j e => (h10 _ (.inl rfl) j e).2), h2.keeps hk (fun j e => (h10 _ (.inr (.inl rfl)) j e).2), h3.keeps hk (fun j e => (h10 _ (.inr (.inr rfl)) j e).2), h4, h5, h6, h7, h8.keeps hk (fun j hj e => h9 (by rw [← e]; exact hj)), h9, h10⟩
theorem Mac.cells {w : World} {m B : Nat} {V : Value × Value × Value} {T : Nat → Option Nat} {M : Nat → Nat} {rs ds : List Sp} {L S X : Nat} (h : Mac w m B V T M rs ds L S X) :
    w.cell? ⟨m, 0, none⟩ = some (.int .i64 (L : Int)) ∧ w.cell? ⟨m, 1, none⟩ = some (.int .i64 (S : Int)) ∧ w.cell? ⟨m, 2, none⟩ = some (.int .i64 (X : Int)) ∧ w.cell? ⟨m, 6, none⟩ = some (.map (some B)) ∧ ∀ i, w.frozen? ⟨m, i, none⟩ = false := by
  obtain ⟨G, h0, _⟩ := h
  refine ⟨?_, ?_, ?_, ?_, fun i => by simp [World.frozen?, h0]⟩ <;> rw [cell_of_row w m _ _ _ _ h0] <;> rfl
theorem wpList_len_pages {w : World} {ops : Array Oper} {rest : List Oper} {o : Oper} {a : Act} {Q : Exit → Act → World → Prop} (hgd : o.guard = none) (x : Operand) (ho : o.op = .call { callee := .builtin .len, args := #[x], argTypes := #[97] })
    {B c : Nat} {T : Nat → Option Nat} (hx : a.eval x = .map (some B)) (hM : MapT w B T c) (h : wpList Tryz.prog ops Q rest (a.put o.dst (.int .i64 (c : Int))) w) : wpList Tryz.prog ops Q (o :: rest) a w := by
  refine wpList_plain hgd fun K hK => ?_
  unfold Oper.wp
  simp [execOp, ho, resolve, invoke, builtin, hx, hM.len o.type, Result.andThen]
  exact hK _ _ h
theorem Mac.held {w : World} {m B : Nat} {V : Value × Value × Value} {T : Nat → Option Nat} {M : Nat → Nat} {rs ds : List Sp} {L S X : Nat} (h : Mac w m B V T M rs ds L S X) : Held w B T M := by
  obtain ⟨_, _, _, _, _, _, _, _, _, h8, _⟩ := h
  exact h8
end Go.Proofs.YtlplbbnicfeoaaaGreat
/- join: a span laid behind a row. Own work. -/
namespace Go.Proofs.YtlplbbnicfeoaaaGreat.U64
open Go.RowKit Go.Shelf Go.Proofs.YtlplbbnicfeoaaaGreat.Sp

/-- One append of one span onto a row that is owned. -/
theorem run_append1 {w : World} {base : Nat} {v : Value} {xs : List Sp} {x : Sp} {g cap : Nat} (ty : TypeId) (hown : Own w base v xs) (h0 : w.cell? ⟨g, 0, none⟩ = some (.int .u64 x.1)) (h1 : w.cell? ⟨g, 1, none⟩ = some (.int .u64 x.2)) (hb : xs.length ≤ 1099511627776) (hbase : base ≤ w.heap.size) :
    ∃ v' w', (Builtin.append_ #[88, 88] ty #[v, .slice (some ⟨g, 0, none⟩) 1 cap]).run Tryz.prog w = .ok v' w' ∧ Own w' base v' (xs ++ [x]) ∧ w.grownBy w' v.ownBlock := by
  obtain ⟨i, hi, hz0, hz1, hz2⟩ := info_parts info_span
  obtain ⟨v', w', h1, h2, h3, _, h5⟩ := run_append_own_at (P := Tryz.prog) w base 88 ty 132 i (.agg #[.int .u64 0, .int .u64 0]) 2 (2 * 8) Tryz.underlying88 hi hz0 hz1 hz2 rfl (by omega) v xs.length (encs xs) hown ⟨g, 0, none⟩ 1 cap (enc x) rfl (fun j u hj => by
    rw [Addr.add_lit, Nat.zero_add]
    match j, hj with
    | 0, hj => rw [h0]; exact hj
    | 1, hj => rw [h1]; exact hj) (by intro u hu; simp only [enc, List.mem_cons, List.not_mem_nil, or_false] at hu; rcases hu with rfl | rfl <;> rfl) (by unfold maxLen; omega) (by omega) hbase
  refine ⟨v', w', h1, ?_, h3⟩
  unfold Own
  rw [List.length_append, encs_append]
  exact h2

theorem wpList_append1 {w : World} {ops : Array Oper} {rest : List Oper} {o : Oper} {a : Act} {Q : Exit → Act → World → Prop} (s x : Operand) (hw : Region.wanted o (yielded ops a.tmps) = true)
    (ho : o.op = .call { callee := .builtin .append, args := #[s, x], argTypes := #[88, 88] })
    {base : Nat} {v : Value} {xs : List Sp} (y : Sp) {g cap : Nat} (hs : a.eval s = v) (hown : Own w base v xs) (hx : a.eval x = .slice (some ⟨g, 0, none⟩) 1 cap) (h0 : w.cell? ⟨g, 0, none⟩ = some (.int .u64 y.1)) (h1 : w.cell? ⟨g, 1, none⟩ = some (.int .u64 y.2)) (hb : xs.length ≤ 1099511627776) (hbase : base ≤ w.heap.size)
    (h : ∀ v' w', Own w' base v' (xs ++ [y]) → w.grownBy w' v.ownBlock → wpList Tryz.prog ops Q rest (a.put o.dst v') w') : wpList Tryz.prog ops Q (o :: rest) a w := by
  refine wpList_step fun K hK => ?_
  rw [if_pos hw]
  obtain ⟨v', w', hr, h2, h3⟩ := run_append1 o.type hown h0 h1 hb hbase (cap := cap)
  unfold Oper.wp execOp
  simp only [ho, resolve, invoke, builtin, Sem.run_bind, Sem.run_pure, Result.andThen_ok, List.map_toArray, List.map_cons, List.map_nil, hs, hx, hr]
  exact hK _ _ (h v' w' h2 h3)
theorem Own.ge {w : World} {base : Nat} {v : Value} {xs : List Sp} (h : Own w base v xs) {k : Nat} (hk : v.ownBlock = some k) : base ≤ k := by
  rcases h.2 with ⟨rfl, _⟩ | ⟨g, cap, cur, rfl, hb, _⟩
  · cases hk
  · cases hk; exact hb
set_option maxHeartbeats 1000000 in
theorem join_empty {w : World} {base : Nat} {v : Value} {x : Sp} (hown : Own w base v []) (hbase : base ≤ w.heap.size) :
    Calls Tryz.prog 69 #[v, .agg #[.int .u64 x.1, .int .u64 x.2]] w fun e w' => ∃ v', e = .returned v' ∧ Own w' base v' [x] ∧ Below base w w' := by
  obtain ⟨ao, cap, rfl⟩ : ∃ ao cap, v = .slice ao 0 cap := by
    rcases hown.2 with ⟨rfl, h0⟩ | ⟨g, cap, cur, rfl, _⟩
    · exact ⟨_, _, rfl⟩
    · exact ⟨_, _, rfl⟩
  have HO : Hid (Own w base (.slice ao 0 cap) []) := hown
  clear hown
  go_enter Tryz.func69, Tryz.ntmps69
  go_wp2_with (at_builtin; refine wpList_append1 (.tmp 9) (.tmp 11) (by rfl) rfl x rfl ((HO.out.alloc _).alloc _) rfl (new2 (by simp) _ _ _).1 (new2 (by simp) _ _ _).2 (by simp) (by simp; omega) ?_; intro v2 w2 h2 g2; have H2 : Hid (Own w2 base v2 [x]) := h2; have HB2 : Hid (Below base w w2) := (((Below.refl _ _).alloc hbase _).alloc (by simp; omega) _).grown g2 (by simp; omega) (fun k hk => HO.out.ge hk); clear h2 g2)
  go_ret
  exact ⟨_, rfl, H2.out, HB2.out⟩

set_option maxHeartbeats 1000000 in
theorem join_far {w : World} {base g cap : Nat} {a : List Sp} {e x : Sp} (hown : Own w base (.slice (some ⟨g, 0, none⟩) (a.length + 1) cap) (a ++ [e])) (hbase : base ≤ w.heap.size) (hx : e.2 + 1 < x.1) (he : 0 ≤ e.2) (hm : x.1 ≤ 18446744073709551615) (hl : a.length < 1099511627776)
    (c1 : w.cell? ⟨g, a.length * 2 + 1, none⟩ = some (.int .u64 e.2)) :
    Calls Tryz.prog 69 #[.slice (some ⟨g, 0, none⟩) (a.length + 1) cap, .agg #[.int .u64 x.1, .int .u64 x.2]] w fun e' w' => ∃ v', e' = .returned v' ∧ Own w' base v' (a ++ [e] ++ [x]) ∧ Below base w w' := by
  have HO : Hid (Own w base (.slice (some ⟨g, 0, none⟩) (a.length + 1) cap) (a ++ [e])) := hown
  clear hown
  have hA1 : ∀ o, (w.alloc o).cell? ⟨g, a.length * 2 + 1, none⟩ = some (.int .u64 e.2) := fun o => cell_alloc' _ c1
  clear c1
  have hd : decide (e.2 < x.1) = true := decide_eq_true (by omega)
  have hd2 : decide (1 < x.1 - e.2) = true := decide_eq_true (by omega)
  go_enter Tryz.func69, Tryz.ntmps69
  go_wp2_with fail
  go_quiet (fail)
  go_wp2_with (at_builtin; refine wpList_append1 (.tmp 35) (.tmp 37) (by rfl) rfl x rfl (((HO.out.alloc _).drewN _).alloc _) rfl (new2 (by simp) _ _ _).1 (new2 (by simp) _ _ _).2 (by simp; omega) (by simp; omega) ?_; intro v2 w2 h2 g2; have H2 : Hid (Own w2 base v2 (a ++ [e] ++ [x])) := h2; have HB2 : Hid (Below base w w2) := ((below_drewN' ((Below.refl _ _).alloc hbase _) _).alloc (by simp; omega) _).grown g2 (by simp; omega) (fun k hk => HO.out.ge hk); clear h2 g2)
  go_ret
  exact ⟨_, rfl, H2.out, HB2.out⟩

theorem Own.set1 {w : World} {base g n cap : Nat} {a : List Sp} {e : Sp} (h : Own w base (.slice (some ⟨g, 0, none⟩) n cap) (a ++ [e])) (z : Int) :
    Own (w.setCell ⟨g, a.length * 2 + 1, none⟩ (.int .u64 z)) base (.slice (some ⟨g, 0, none⟩) n cap) (a ++ [(e.1, z)]) := by
  rcases h.2 with ⟨hv, _⟩ | ⟨g', cap', cur, hv, hb, hg, hnc, hcm, hcs, ht⟩
  · cases hv
  · cases hv
    refine ⟨by rw [encs_length], .inr ⟨g, cap, cur.setIfInBounds (a.length * 2 + 1) (.int .u64 z), by simp, hb, ?_, by simpa using hnc, hcm, by simpa using hcs, ?_⟩⟩
    · simp only [World.setCell, Array.getElem?_modify]
      rw [if_pos trivial, hg]
      simp
    · rw [Array.toList_setIfInBounds, show (a ++ [(e.1, z)]).length * 2 = (a ++ [e]).length * 2 by simp, List.take_set, ht, encs_append, encs_append, List.set_append_right _ _ (by rw [encs_length]; omega), encs_length]
      rw [show a.length * 2 + 1 - a.length * 2 = 1 by omega]
      rfl

set_option maxHeartbeats 2000000 in
theorem join_near {w : World} {base g cap : Nat} {a : List Sp} {e x : Sp} (hown : Own w base (.slice (some ⟨g, 0, none⟩) (a.length + 1) cap) (a ++ [e])) (hbase : base ≤ w.heap.size) (hx : ¬ e.2 + 1 < x.1) (hl : a.length < 1099511627776)
    (c1 : w.cell? ⟨g, a.length * 2 + 1, none⟩ = some (.int .u64 e.2)) (hf : w.frozen? ⟨g, a.length * 2 + 1, none⟩ = false) (hbg : base ≤ g) :
    Calls Tryz.prog 69 #[.slice (some ⟨g, 0, none⟩) (a.length + 1) cap, .agg #[.int .u64 x.1, .int .u64 x.2]] w fun e' w' => ∃ v', e' = .returned v' ∧ Own w' base v' (a ++ [(e.1, max e.2 x.2)]) ∧ Below base w w' := by
  have HO : Hid (Own w base (.slice (some ⟨g, 0, none⟩) (a.length + 1) cap) (a ++ [e])) := hown
  clear hown
  have hA1 : ∀ o, (w.alloc o).cell? ⟨g, a.length * 2 + 1, none⟩ = some (.int .u64 e.2) := fun o => cell_alloc' _ c1
  have hF1 : ∀ o, (w.alloc o).frozen? ⟨g, a.length * 2 + 1, none⟩ = false := fun o => by
    rw [((Below.refl w.heap.size w).alloc (Nat.le_refl _) o).frozen (p := ⟨g, a.length * 2 + 1, none⟩) (World.block_lt_of_cell? w _ c1)]; exact hf
  have H1 : Hid (∀ o n z, z = max e.2 x.2 → Own (((w.alloc o).drewN n).setCell ⟨g, a.length * 2 + 1, none⟩ (.int .u64 z)) base (.slice (some ⟨g, 0, none⟩) (a.length + 1) cap) (a ++ [(e.1, max e.2 x.2)]) ∧ Below base w (((w.alloc o).drewN n).setCell ⟨g, a.length * 2 + 1, none⟩ (.int .u64 z))) :=
    fun o n z hz => hz ▸ ⟨((HO.out.alloc o).drewN n).set1 _, (below_drewN' ((Below.refl _ _).alloc hbase _) _).setCell (p := ⟨g, a.length * 2 + 1, none⟩) hbg _⟩
  clear c1 hf
  by_cases hlt : e.2 < x.1
  · have hd : decide (e.2 < x.1) = true := decide_eq_true (by omega)
    have hd2 : decide (1 < x.1 - e.2) = false := decide_eq_false (by omega)
    go_enter Tryz.func69, Tryz.ntmps69
    go_wp2_with fail
    go_quiet (fail)
    go_wp2_with fail
    go_region
    all_goals go_wp2
    all_goals
      go_ret
      exact ⟨_, rfl, H1.out _ _ _ (by omega)⟩
  · have hd : decide (e.2 < x.1) = false := decide_eq_false (by omega)
    go_enter Tryz.func69, Tryz.ntmps69
    go_wp2_with fail
    go_quiet (fail)
    go_wp2_with fail
    go_region
    all_goals go_wp2
    all_goals
      go_ret
      exact ⟨_, rfl, H1.out _ _ _ (by omega)⟩

/-- JOIN: whatever row, whatever span. -/
theorem join_any {w : World} {base : Nat} {v : Value} {xs : List Sp} {x : Sp} {m : Int} (hown : Own w base v xs) (hbase : base ≤ w.heap.size) (hc : Canon m xs) (hm : x.1 ≤ 18446744073709551615) (hl : xs.length ≤ 1099511627776) :
    Calls Tryz.prog 69 #[v, .agg #[.int .u64 x.1, .int .u64 x.2]] w fun e' w' => ∃ v', e' = .returned v' ∧ Own w' base v' (joined xs x) ∧ Below base w w' := by
  rcases List.eq_nil_or_concat xs with rfl | ⟨a, e, rfl⟩
  · exact join_empty hown hbase
  · simp only [List.concat_eq_append] at hown hc hl ⊢
    obtain ⟨g, cap, cur, rfl, hb, hg, hnc, hcm, hcs, ht⟩ : ∃ g cap cur, v = .slice (some ⟨g, 0, none⟩) (a ++ [e]).length cap ∧ base ≤ g ∧ w.heap[g]? = some (.cells cur 132 (0, 0)) ∧ (a ++ [e]).length ≤ cap ∧ cap ≤ maxLen ∧ cur.size = cap * 2 ∧ cur.toList.take ((a ++ [e]).length * 2) = encs (a ++ [e]) := by
      rcases hown.2 with ⟨_, h0⟩ | h
      · simp at h0
      · exact h
    have he := hc.1 e (by simp)
    have hlen : (a ++ [e]).length = a.length + 1 := by simp
    obtain ⟨ao, cap', e1, _, _, _, _, hj⟩ := hown.sv
    obtain ⟨g', off, e2, _, c1⟩ := hj a.length (by simp)
    cases e1
    cases e2
    simp only [List.getElem_concat_length, Nat.zero_add] at c1
    have hf : w.frozen? ⟨g, a.length * 2 + 1, none⟩ = false := by simp [World.frozen?, hg]
    rw [hlen] at hown hl ⊢
    by_cases hx : e.2 + 1 < x.1
    · rw [joined_far a e x hx]
      exact join_far hown hbase hx (by omega) hm (by omega) c1
    · rw [joined_near a e x hx]
      exact join_near hown hbase hx (by omega) c1 hf hb
end Go.Proofs.YtlplbbnicfeoaaaGreat.U64
/- stretch, behind, merge; Or, Meet, Less. Own work. -/
namespace Go.Proofs.YtlplbbnicfeoaaaGreat.U64
open Go.RowKit Go.Shelf Go.Proofs.YtlplbbnicfeoaaaGreat.Sp

set_option maxHeartbeats 1000000 in
theorem stretch_any {w : World} {v : Value} {xs : List Sp} {first : Int} (hv : SV w v xs) (hc : Canon 18446744073709551615 xs) (h0 : 0 ≤ first) :
    Calls Tryz.prog 107 #[v, .int .u64 first] w fun e w' => e = .returned (.tuple #[.int .u64 (stretched 18446744073709551615 xs first).1, .bool (stretched 18446744073709551615 xs first).2]) ∧ w' = w := by
  obtain ⟨ao, cap, rfl, h1, h2, h3, h4, h5⟩ := hv
  cases xs with
  | nil =>
    clear h5
    go_enter Tryz.func107, Tryz.ntmps107
    go_wp2
    go_ret2
    exact ⟨rfl, rfl⟩
  | cons x r =>
    obtain ⟨g, off, rfl, c0, c1⟩ := h5 0 (by simp)
    have hb := (canon_cons.1 hc).1
    simp only [List.getElem_cons_zero, Nat.zero_mul, Nat.add_zero] at c0 c1
    by_cases g1 : first < x.1
    · have hs : stretched 18446744073709551615 (x :: r) first = (x.1 - 1, false) := by simp [stretched, g1]
      rw [hs]
      clear h5 hc hs
      go_enter Tryz.func107, Tryz.ntmps107
      go_wp2
      go_ret2
      exact ⟨rfl, rfl⟩
    · have hs : stretched 18446744073709551615 (x :: r) first = (x.2, true) := by simp [stretched, g1]
      rw [hs]
      clear h5 hc hs
      go_enter Tryz.func107, Tryz.ntmps107
      go_wp2
      go_ret2
      exact ⟨rfl, rfl⟩
theorem SV.tail {w : World} {g off cap : Nat} {x : Sp} {r : List Sp} (h : SV w (.slice (some ⟨g, off, none⟩) (x :: r).length cap) (x :: r)) : SV w (.slice (some ⟨g, off + 2, none⟩) r.length (cap - 1)) r := by
  obtain ⟨ao, cap, e, h1, h2, h3, h4, h5⟩ := h
  cases e
  obtain ⟨g', off', e', hg⟩ := h4 _ rfl
  cases e'
  refine ⟨_, _, rfl, by simp at h1; omega, by omega, fun e => (by cases e), fun a e => (by cases e; exact ⟨g, off + 2, rfl, hg⟩), fun j hj => ?_⟩
  obtain ⟨g', off', e', d0, d1⟩ := h5 (j + 1) (by simpa using hj)
  cases e'
  refine ⟨g, off + 2, rfl, ?_, ?_⟩
  · rw [show off + 2 + j * 2 = off + (j + 1) * 2 by omega]; simpa using d0
  · rw [show off + 2 + j * 2 + 1 = off + (j + 1) * 2 + 1 by omega]; simpa using d1
theorem SV.tail1 {w : World} {g off : Nat} {x : Sp} {r : List Sp} (h : SV w (.slice (some ⟨g, off, none⟩) (x :: r).length 1) (x :: r)) : SV w (.slice (some ⟨g, off, none⟩) r.length 0) r := by
  obtain ⟨ao, cap, e, h1, h2, h3, h4, h5⟩ := h
  cases e
  obtain rfl : r = [] := List.eq_nil_of_length_eq_zero (by simp only [List.length_cons] at h1; omega)
  exact ⟨_, _, rfl, Nat.le_refl _, Nat.zero_le _, fun e => (by cases e), h4, fun j hj => by simp at hj⟩
set_option maxHeartbeats 1000000 in
theorem behind_any {w : World} {v : Value} {xs : List Sp} {last : Int} (hv : SV w v xs) :
    Calls Tryz.prog 108 #[v, .int .u64 last] w fun e w' => ∃ v', e = .returned v' ∧ (∀ W, SV W v xs → SV W v' (behindOf xs last)) ∧ w' = w := by
  obtain ⟨ao, cap, rfl, h1, h2, h3, h4, h5⟩ := hv
  cases xs with
  | nil =>
    clear h5
    go_enter Tryz.func108, Tryz.ntmps108
    go_wp2
    go_ret
    exact ⟨_, rfl, fun _ h => h, rfl⟩
  | cons x r =>
    obtain ⟨g, off, rfl, c0, c1⟩ := h5 0 (by simp)
    simp only [List.getElem_cons_zero, Nat.zero_mul, Nat.add_zero] at c0 c1
    by_cases g1 : x.2 = last
    · have hs : behindOf (x :: r) last = r := by simp [behindOf, g1]
      rw [hs]
      clear h5 hs
      by_cases hc1 : cap = 1
      · subst hc1
        go_enter Tryz.func108, Tryz.ntmps108
        go_wp2
        go_ret
        exact ⟨_, rfl, fun _ h => h.tail1, rfl⟩
      · go_enter Tryz.func108, Tryz.ntmps108
        go_wp2
        go_ret
        exact ⟨_, rfl, fun _ h => h.tail, rfl⟩
    · have hs : behindOf (x :: r) last = x :: r := by simp [behindOf, g1]
      rw [hs]
      clear h5 hs
      go_enter Tryz.func108, Tryz.ntmps108
      go_wp2
      go_ret
      exact ⟨_, rfl, fun _ h => h, rfl⟩

theorem Own.low {w : World} {base : Nat} {v : Value} {xs : List Sp} (h : Own w base v xs) {b : Nat} (hb : b < base) (i : Nat) (u : Value) : Own (w.setCell ⟨b, i, none⟩ u) base v xs := by
  refine ⟨h.1, ?_⟩
  rcases h.2 with hv | ⟨g, cap, cur, rfl, hbb, hgg, rest⟩
  · exact .inl hv
  · refine .inr ⟨g, cap, cur, rfl, hbb, ?_, rest⟩
    rw [Below.heap_setCell _ _ _ _ (by show g ≠ b; omega)]
    exact hgg
theorem Own.lower {w : World} {base base' : Nat} {v : Value} {xs : List Sp} (h : Own w base v xs) (hb : base' ≤ base) : Own w base' v xs := by
  refine ⟨h.1, ?_⟩
  rcases h.2 with hv | ⟨g, cap, cur, rfl, hbb, rest⟩
  · exact .inl hv
  · exact .inr ⟨g, cap, cur, rfl, Nat.le_trans hb hbb, rest⟩
/-- What a call that makes a set hands back. -/
def SetPost (w : World) (R : List Sp → Prop) (e : Ending) (w' : World) : Prop := ∃ v rs, e = .returned (.agg #[v]) ∧ Own w' w.heap.size v rs ∧ R rs ∧ Below w.heap.size w w'
/-- The cell of the result: the third new block. -/
theorem third_cell {w w2 : World} {a b : Obj} {v : Value} {t : TypeId} (h : Below (((w.alloc a).alloc b).alloc (.cells #[v] t)).heap.size (((w.alloc a).alloc b).alloc (.cells #[v] t)) w2) :
    w2.cell? ⟨w.heap.size + 1 + 1, 0, none⟩ = some v ∧ w2.frozen? ⟨w.heap.size + 1 + 1, 0, none⟩ = false := by
  have e := heap_alloc_new ((w.alloc a).alloc b) (.cells #[v] t)
  rw [show ((w.alloc a).alloc b).heap.size = w.heap.size + 1 + 1 by simp] at e
  have hb := (h.block (w.heap.size + 1 + 1) (by simp)).trans e
  exact ⟨by rw [cell_of_row _ _ 0 _ _ _ hb]; rfl, by simp [World.frozen?, hb]⟩
/-- Where the walk over two rows stands. -/
def At (W0 wr : World) (keep : Bool → Bool → Bool) (s t : List Sp) (v vs vt : Value) (first : Int) : Prop :=
  ∃ rs rt acc, Mid 18446744073709551615 keep s t first rs rt acc ∧ SV W0 vs rs ∧ SV W0 vt rt ∧ Own wr W0.heap.size v acc ∧ Below W0.heap.size W0 wr

set_option maxHeartbeats 2000000 in
theorem merge_any {w : World} {kf : Nat} {keep : Bool → Bool → Bool} {vs vt : Value} {s t : List Sp} (eg : ∀ args w, (callFunc kf args).run Tryz.prog w = .ok (.enter kf args) w)
    (hk : ∀ a b W, Calls Tryz.prog kf #[.bool a, .bool b] W fun e w' => e = .returned (.bool (keep a b)) ∧ w' = W)
    (hs : SV w vs s) (ht : SV w vt t) (cs : Canon 18446744073709551615 s) (ct : Canon 18446744073709551615 t) (hl : s.length + t.length ≤ 274877906944) :
    Calls Tryz.prog 92 #[.agg #[vs], .agg #[vt], .func (.func kf) #[] #[]] w fun e w' => SetPost w (Made 18446744073709551615 keep s t) e w' := by
  have HS : Hid (SV w vs s) := hs
  have HT : Hid (SV w vt t) := ht
  clear hs ht
  go_enter Tryz.func92, Tryz.ntmps92
  go_wp2_with fail
  go_quiet (fail)
  go_wp2_with fail
  obtain ⟨W0, hW0⟩ : ∃ W0, (((w.alloc (Obj.cells #[vs] 90)).alloc (Obj.cells #[vt] 90)).alloc (Obj.cells #[Value.slice none 0 0] 90)).drewN nq = W0 := ⟨_, rfl⟩
  have hZ : W0.heap.size = w.heap.size + 1 + 1 + 1 := by rw [← hW0]; simp
  have hC : W0.heap[w.heap.size + 1 + 1]? = some (Obj.cells #[Value.slice none 0 0] 90) := by
    rw [← hW0]
    have := heap_alloc_new ((w.alloc (Obj.cells #[vs] 90)).alloc (Obj.cells #[vt] 90)) (Obj.cells #[Value.slice none 0 0] 90)
    rwa [show ((w.alloc (Obj.cells #[vs] 90)).alloc (Obj.cells #[vt] 90)).heap.size = w.heap.size + 1 + 1 by simp] at this
  have hB0 : Below w.heap.size w W0 := by
    rw [← hW0]
    exact below_drewN' ((((Below.refl _ _).alloc (Nat.le_refl _) _).alloc (by simp) _).alloc (by simp; omega) _) _
  have HZ : Hid (W0.heap.size = w.heap.size + 1 + 1 + 1) := hZ
  have HC : Hid (W0.heap[w.heap.size + 1 + 1]? = some (Obj.cells #[Value.slice none 0 0] 90)) := hC
  have HB0 : Hid (Below w.heap.size w W0) := hB0
  clear hZ hC hB0
  rw [hW0]
  clear hW0
  have HS0 : Hid (SV W0 vs s) := HS.out.below HB0.out (Nat.le_refl _)
  have HT0 : Hid (SV W0 vt t) := HT.out.below HB0.out (Nat.le_refl _)
  clear HS HT
  go_loopw [7, 8, 9, 10] (fun v a b f wr => ∃ first, f = .int .u64 first ∧ Hid (At W0 wr keep s t v a b first)) (fun _ _ _ f _ => (18446744073709551615 + 1 - intOf f).toNat)
  case atStart => exact ⟨0, rfl, s, t, [], Mid.start (by decide) cs ct, HS0.out, HT0.out, Own.nil _ _, Below.refl _ _⟩
  case round =>
    obtain ⟨first, rfl, HA⟩ := hrel
    obtain ⟨rs, rt, acc, hM, hS, hT, hO, hB⟩ := HA.out
    obtain ⟨ls, is, hls⟩ : ∃ ls is, stretched 18446744073709551615 rs first = (ls, is) := ⟨_, _, rfl⟩
    obtain ⟨lt, it, hlt⟩ : ∃ lt it, stretched 18446744073709551615 rt first = (lt, it) := ⟨_, _, rfl⟩
    have hCS := stretch_any (hS.below hB (Nat.le_refl _)) hM.cs hM.hb.1
    have hCT := stretch_any (hT.below hB (Nat.le_refl _)) hM.ct hM.hb.1
    rw [hls] at hCS
    rw [hlt] at hCT
    have HCS : Hid (Calls Tryz.prog 107 #[u8, .int .u64 first] wr fun e w' => e = .returned (.tuple #[.int .u64 ls, .bool is]) ∧ w' = wr) := hCS
    have HCT : Hid (Calls Tryz.prog 107 #[u9, .int .u64 first] wr fun e w' => e = .returned (.tuple #[.int .u64 lt, .bool it]) ∧ w' = wr) := hCT
    have HLS : Hid (stretched 18446744073709551615 rs first = (ls, is)) := hls
    have HLT : Hid (stretched 18446744073709551615 rt first = (lt, it)) := hlt
    have HM : Hid (Mid 18446744073709551615 keep s t first rs rt acc) := hM
    have HSr : Hid (SV W0 u8 rs) := hS
    have HTr : Hid (SV W0 u9 rt) := hT
    have HO : Hid (Own wr W0.heap.size u7 acc) := hO
    have HB : Hid (Below W0.heap.size W0 wr) := hB
    obtain ⟨last, hlast⟩ : ∃ last, last = min ls lt := ⟨_, rfl⟩
    have hbd : first ≤ last ∧ last ≤ 18446744073709551615 := by
      have := hM.laid (last := last) (by rw [hls, hlt]; exact hlast)
      exact ⟨this.1, this.2.1⟩
    have hf0 := hM.hb
    have hac : acc.length ≤ 1099511627776 := by have := hM.wt; omega
    clear hM hS hT hO hB hls hlt hCS hCT
    have HLa : Hid (last = min (stretched 18446744073709551615 rs first).1 (stretched 18446744073709551615 rt first).1) := by rw [HLS.out, HLT.out]; exact hlast
    have HLm : Hid (last = min ls lt) := hlast
    clear hlast
    have HK := hk is it
    have hx : bits BinOp.xor IntKind.u64 (if IntKind.u64.signed = true then -1 else IntKind.u64.max) 0 = 18446744073709551615 := by decide
    have HCell : Hid (∀ W, Below W0.heap.size W0 W → W.cell? ⟨w.heap.size + 1 + 1, 0, none⟩ = some (.slice none 0 0) ∧ W.frozen? ⟨w.heap.size + 1 + 1, 0, none⟩ = false) := fun W hW => by
      have hz := HZ.out
      have hb := (hW.block (w.heap.size + 1 + 1) (by omega)).trans HC.out
      exact ⟨by rw [cell_of_row _ _ 0 _ _ _ hb]; rfl, by simp [World.frozen?, hb]⟩
    go_wp2_with fail
    refine HCS.out.mono ?_
    rintro e w' ⟨rfl, hw⟩
    rw [hw]
    clear HCS hw w'
    go_wp2_with fail
    refine HCT.out.mono ?_
    rintro e w' ⟨rfl, hw⟩
    rw [hw]
    clear HCT hw w'
    go_wp2_with fail
    · obtain rfl : last = lt := by have := HLm.out; omega
      refine (HK _).mono ?_
      rintro e w' ⟨rfl, hw⟩
      rw [hw]
      clear hw w'
      by_cases hke : keep is it = true
      · rw [hke]
        go_wp2_with fail
        refine (join_any (x := (first, last)) HO.out HB.out.size HM.out.ca (by show first ≤ _; omega) hac).mono ?_
        rintro e w2 ⟨v2, rfl, hO2, hB2⟩
        have HO2 : Hid (Own w2 W0.heap.size v2 (if keep (stretched 18446744073709551615 rs first).2 (stretched 18446744073709551615 rt first).2 then joined acc (first, last) else acc)) := by rw [HLS.out, HLT.out, if_pos hke]; exact hO2
        have HB2 : Hid (Below W0.heap.size W0 w2) := HB.out.trans hB2
        obtain ⟨a2, c2, hv2⟩ : ∃ a c, v2 = .slice a (joined acc (first, last)).length c := by
          obtain ⟨a, c, e, _⟩ := hO2.sv
          exact ⟨a, c, e⟩
        rw [hv2] at HO2 ⊢
        clear hO2 hB2 hv2 v2
        obtain ⟨n2, hn2⟩ : ∃ n2, n2 = (joined acc (first, last)).length := ⟨_, rfl⟩
        rw [← hn2] at HO2 ⊢
        clear hn2
        by_cases hm : last = 18446744073709551615
        · have hq : (last == 18446744073709551615) = true := by simpa using hm
          obtain ⟨hce, hfe⟩ := HCell.out _ HB2.out
          go_wp2_with fail
          have d0 := World.cell?_setCell_same' w2 ⟨w.heap.size + 1 + 1, 0, none⟩ (.slice a2 n2 c2) (by rw [hce]; rfl)
          refine bodyPost_ret (v := .agg #[.slice a2 n2 c2]) (by simp [results, Tryz.results92, go_sem, d0]) rfl ?_
          exact ⟨_, _, rfl, (HO2.out.low (by have := HZ.out; omega) _ _).lower (by have := HZ.out; omega), HM.out.done HLa.out hm, (HB0.out.trans (HB2.out.mono HB0.out.size)).setCell (p := ⟨w.heap.size + 1 + 1, 0, none⟩) (by show w.heap.size ≤ w.heap.size + 1 + 1; omega) _⟩
        · have hq : (last == 18446744073709551615) = false := by simpa using hm
          go_wp2_with fail
          refine (behind_any (HSr.out.below HB2.out (Nat.le_refl _))).mono ?_
          rintro e w' ⟨v3, rfl, h3, hw⟩
          rw [hw]
          clear hw w'
          have HS3 : Hid (SV W0 v3 (behindOf rs last)) := h3 _ HSr.out
          clear h3
          go_wp2_with fail
          refine (behind_any (HTr.out.below HB2.out (Nat.le_refl _))).mono ?_
          rintro e w' ⟨v4, rfl, h4, hw⟩
          rw [hw]
          clear hw w'
          have HT3 : Hid (SV W0 v4 (behindOf rt last)) := h4 _ HTr.out
          clear h4
          go_wp2_with fail
          go_roundw
          case rel => exact ⟨last + 1, rfl, _, _, _, HM.out.next HLa.out hm, HS3.out, HT3.out, HO2.out, HB2.out⟩
          case measure => simp [intOf]; omega
      · rw [Bool.not_eq_true] at hke
        rw [hke]
        have HO2 : Hid (Own wr W0.heap.size u7 (if keep (stretched 18446744073709551615 rs first).2 (stretched 18446744073709551615 rt first).2 then joined acc (first, last) else acc)) := by rw [HLS.out, HLT.out, if_neg (by rw [hke]; simp)]; exact HO.out
        have HB2 : Hid (Below W0.heap.size W0 wr) := HB.out
        obtain ⟨a2, n2, c2, hv2⟩ : ∃ a n c, u7 = .slice a n c := by
          obtain ⟨a, c, e, _⟩ := HO.out.sv
          exact ⟨a, _, c, e⟩
        rw [hv2] at HO2 ⊢
        clear hv2
        by_cases hm : last = 18446744073709551615
        · have hq : (last == 18446744073709551615) = true := by simpa using hm
          obtain ⟨hce, hfe⟩ := HCell.out _ HB2.out
          go_wp2_with fail
          have d0 := World.cell?_setCell_same' wr ⟨w.heap.size + 1 + 1, 0, none⟩ (.slice a2 n2 c2) (by rw [hce]; rfl)
          refine bodyPost_ret (v := .agg #[.slice a2 n2 c2]) (by simp [results, Tryz.results92, go_sem, d0]) rfl ?_
          exact ⟨_, _, rfl, (HO2.out.low (by have := HZ.out; omega) _ _).lower (by have := HZ.out; omega), HM.out.done HLa.out hm, (HB0.out.trans (HB2.out.mono HB0.out.size)).setCell (p := ⟨w.heap.size + 1 + 1, 0, none⟩) (by show w.heap.size ≤ w.heap.size + 1 + 1; omega) _⟩
        · have hq : (last == 18446744073709551615) = false := by simpa using hm
          go_wp2_with fail
          refine (behind_any (HSr.out.below HB2.out (Nat.le_refl _))).mono ?_
          rintro e w' ⟨v3, rfl, h3, hw⟩
          rw [hw]
          clear hw w'
          have HS3 : Hid (SV W0 v3 (behindOf rs last)) := h3 _ HSr.out
          clear h3
          go_wp2_with fail
          refine (behind_any (HTr.out.below HB2.out (Nat.le_refl _))).mono ?_
          rintro e w' ⟨v4, rfl, h4, hw⟩
          rw [hw]
          clear hw w'
          have HT3 : Hid (SV W0 v4 (behindOf rt last)) := h4 _ HTr.out
          clear h4
          go_wp2_with fail
          go_roundw
          case rel => exact ⟨last + 1, rfl, _, _, _, HM.out.next HLa.out hm, HS3.out, HT3.out, HO2.out, HB2.out⟩
          case measure => simp [intOf]; omega
    · obtain rfl : last = ls := by have := HLm.out; omega
      refine (HK _).mono ?_
      rintro e w' ⟨rfl, hw⟩
      rw [hw]
      clear hw w'
      by_cases hke : keep is it = true
      · rw [hke]
        go_wp2_with fail
        refine (join_any (x := (first, last)) HO.out HB.out.size HM.out.ca (by show first ≤ _; omega) hac).mono ?_
        rintro e w2 ⟨v2, rfl, hO2, hB2⟩
        have HO2 : Hid (Own w2 W0.heap.size v2 (if keep (stretched 18446744073709551615 rs first).2 (stretched 18446744073709551615 rt first).2 then joined acc (first, last) else acc)) := by rw [HLS.out, HLT.out, if_pos hke]; exact hO2
        have HB2 : Hid (Below W0.heap.size W0 w2) := HB.out.trans hB2
        obtain ⟨a2, c2, hv2⟩ : ∃ a c, v2 = .slice a (joined acc (first, last)).length c := by
          obtain ⟨a, c, e, _⟩ := hO2.sv
          exact ⟨a, c, e⟩
        rw [hv2] at HO2 ⊢
        clear hO2 hB2 hv2 v2
        obtain ⟨n2, hn2⟩ : ∃ n2, n2 = (joined acc (first, last)).length := ⟨_, rfl⟩
        rw [← hn2] at HO2 ⊢
        clear hn2
        by_cases hm : last = 18446744073709551615
        · have hq : (last == 18446744073709551615) = true := by simpa using hm
          obtain ⟨hce, hfe⟩ := HCell.out _ HB2.out
          go_wp2_with fail
          have d0 := World.cell?_setCell_same' w2 ⟨w.heap.size + 1 + 1, 0, none⟩ (.slice a2 n2 c2) (by rw [hce]; rfl)
          refine bodyPost_ret (v := .agg #[.slice a2 n2 c2]) (by simp [results, Tryz.results92, go_sem, d0]) rfl ?_
          exact ⟨_, _, rfl, (HO2.out.low (by have := HZ.out; omega) _ _).lower (by have := HZ.out; omega), HM.out.done HLa.out hm, (HB0.out.trans (HB2.out.mono HB0.out.size)).setCell (p := ⟨w.heap.size + 1 + 1, 0, none⟩) (by show w.heap.size ≤ w.heap.size + 1 + 1; omega) _⟩
        · have hq : (last == 18446744073709551615) = false := by simpa using hm
          go_wp2_with fail
          refine (behind_any (HSr.out.below HB2.out (Nat.le_refl _))).mono ?_
          rintro e w' ⟨v3, rfl, h3, hw⟩
          rw [hw]
          clear hw w'
          have HS3 : Hid (SV W0 v3 (behindOf rs last)) := h3 _ HSr.out
          clear h3
          go_wp2_with fail
          refine (behind_any (HTr.out.below HB2.out (Nat.le_refl _))).mono ?_
          rintro e w' ⟨v4, rfl, h4, hw⟩
          rw [hw]
          clear hw w'
          have HT3 : Hid (SV W0 v4 (behindOf rt last)) := h4 _ HTr.out
          clear h4
          go_wp2_with fail
          go_roundw
          case rel => exact ⟨last + 1, rfl, _, _, _, HM.out.next HLa.out hm, HS3.out, HT3.out, HO2.out, HB2.out⟩
          case measure => simp [intOf]; omega
      · rw [Bool.not_eq_true] at hke
        rw [hke]
        have HO2 : Hid (Own wr W0.heap.size u7 (if keep (stretched 18446744073709551615 rs first).2 (stretched 18446744073709551615 rt first).2 then joined acc (first, last) else acc)) := by rw [HLS.out, HLT.out, if_neg (by rw [hke]; simp)]; exact HO.out
        have HB2 : Hid (Below W0.heap.size W0 wr) := HB.out
        obtain ⟨a2, n2, c2, hv2⟩ : ∃ a n c, u7 = .slice a n c := by
          obtain ⟨a, c, e, _⟩ := HO.out.sv
          exact ⟨a, _, c, e⟩
        rw [hv2] at HO2 ⊢
        clear hv2
        by_cases hm : last = 18446744073709551615
        · have hq : (last == 18446744073709551615) = true := by simpa using hm
          obtain ⟨hce, hfe⟩ := HCell.out _ HB2.out
          go_wp2_with fail
          have d0 := World.cell?_setCell_same' wr ⟨w.heap.size + 1 + 1, 0, none⟩ (.slice a2 n2 c2) (by rw [hce]; rfl)
          refine bodyPost_ret (v := .agg #[.slice a2 n2 c2]) (by simp [results, Tryz.results92, go_sem, d0]) rfl ?_
          exact ⟨_, _, rfl, (HO2.out.low (by have := HZ.out; omega) _ _).lower (by have := HZ.out; omega), HM.out.done HLa.out hm, (HB0.out.trans (HB2.out.mono HB0.out.size)).setCell (p := ⟨w.heap.size + 1 + 1, 0, none⟩) (by show w.heap.size ≤ w.heap.size + 1 + 1; omega) _⟩
        · have hq : (last == 18446744073709551615) = false := by simpa using hm
          go_wp2_with fail
          refine (behind_any (HSr.out.below HB2.out (Nat.le_refl _))).mono ?_
          rintro e w' ⟨v3, rfl, h3, hw⟩
          rw [hw]
          clear hw w'
          have HS3 : Hid (SV W0 v3 (behindOf rs last)) := h3 _ HSr.out
          clear h3
          go_wp2_with fail
          refine (behind_any (HTr.out.below HB2.out (Nat.le_refl _))).mono ?_
          rintro e w' ⟨v4, rfl, h4, hw⟩
          rw [hw]
          clear hw w'
          have HT3 : Hid (SV W0 v4 (behindOf rt last)) := h4 _ HTr.out
          clear h4
          go_wp2_with fail
          go_roundw
          case rel => exact ⟨last + 1, rfl, _, _, _, HM.out.next HLa.out hm, HS3.out, HT3.out, HO2.out, HB2.out⟩
          case measure => simp [intOf]; omega

theorem or1 (a b : Bool) (W : World) : Calls Tryz.prog 93 #[.bool a, .bool b] W fun e w' => e = .returned (.bool (a || b)) ∧ w' = W := by
  cases a <;> cases b
  all_goals
    go_enter Tryz.func93, Tryz.ntmps93
    go_wp2
    go_ret
    exact ⟨rfl, rfl⟩
theorem less1 (a b : Bool) (W : World) : Calls Tryz.prog 114 #[.bool a, .bool b] W fun e w' => e = .returned (.bool (a && !b)) ∧ w' = W := by
  cases a <;> cases b
  all_goals
    go_enter Tryz.func114, Tryz.ntmps114
    go_wp2
    go_ret
    exact ⟨rfl, rfl⟩
end Go.Proofs.YtlplbbnicfeoaaaGreat.U64
