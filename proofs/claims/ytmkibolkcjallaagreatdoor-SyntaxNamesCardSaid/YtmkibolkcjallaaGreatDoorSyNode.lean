/- Rows of nodes; node keeps a node. Own work. -/
import Derived.Test.YtmkibolkcjallaaGreatDoorSyPol
namespace Go.Proofs.YtmkibolkcjallaaGreatDoor
open Go.RowKit Sc
structure Nd where
  op : Int
  n : Int
  s : ByteArray
  ka : Option Addr
  kn : Nat
  kc : Nat
  at_ : Int
def encN (t : Nd) : List Value := [.int .i64 t.op, .int .u64 t.n, .string t.s, .slice t.ka t.kn t.kc, .int .i64 t.at_]
def encNs (ts : List Nd) : List Value := ts.flatMap encN
theorem encNs_length (ts : List Nd) : (encNs ts).length = ts.length * 5 := by
  induction ts with
  | nil => rfl
  | cons x xs ih => simp only [encNs, List.flatMap_cons, List.length_append, List.length_cons] at ih ⊢; rw [ih]; simp only [encN, List.length_cons, List.length_nil]; omega
theorem encNs_append (xs ys : List Nd) : encNs (xs ++ ys) = encNs xs ++ encNs ys := by simp [encNs]
theorem encN_one (t : Nd) : ∀ u ∈ encN t, u.oneCell' = true := by
  intro u hu
  simp only [encN, List.mem_cons, List.not_mem_nil, or_false] at hu
  rcases hu with rfl | rfl | rfl | rfl | rfl <;> rfl
theorem encNs_get (ts : List Nd) (j i : Nat) (h : j < ts.length) (hi : i < 5) : (encNs ts)[j * 5 + i]? = (encN ts[j])[i]? := by
  induction ts generalizing j with
  | nil => simp at h
  | cons x xs ih =>
    cases j with
    | zero =>
      rw [show encNs (x :: xs) = encN x ++ encNs xs from rfl, List.getElem?_append_left (by simp [encN]; omega)]
      simp
    | succ j =>
      have := ih j (by simpa using h)
      rw [show encNs (x :: xs) = encN x ++ encNs xs from rfl, List.getElem?_append_right (by simp [encN]; omega)]
      rw [show (j + 1) * 5 + i - (encN x).length = j * 5 + i by simp [encN]; omega, this]
      rfl
theorem info_nd : (Tryz.prog.info? 37).map (fun i => (i.zero, i.size, i.bytes)) = some (some (.agg #[.int .i64 0, .int .u64 0, .string ⟨#[]⟩, .slice none 0 0, .int .i64 0]), 5, 64) := by kernel_rfl
/-- a row of nodes that is owned from base on -/
def OwnN (w : World) (base : Nat) (v : Value) (ts : List Nd) : Prop := w.ownsRow base 37 5 v ts.length (encNs ts)
theorem OwnN.nil (w : World) (base : Nat) : OwnN w base (.slice none 0 0) [] := ⟨rfl, .inl ⟨rfl, rfl⟩⟩
theorem OwnN.lt {w : World} {base : Nat} {v : Value} {ts : List Nd} (h : OwnN w base v ts) : ∀ k, v.ownBlock = some k → base ≤ k ∧ k < w.heap.size := World.ownsRow.lt h
theorem OwnN.keeps {S : Nat → Prop} {w w' : World} {base : Nat} {v : Value} {ts : List Nd} (h : OwnN w base v ts) (hk : Keeps S w w') (hn : ∀ k, v.ownBlock = some k → ¬ S k) : OwnN w' base v ts := by
  refine ⟨h.1, ?_⟩
  rcases h.2 with hv | ⟨g, cap, cur, rfl, hb, hgg, rest⟩
  · exact .inl hv
  · refine .inr ⟨g, cap, cur, rfl, hb, ?_, rest⟩
    rw [hk.block g (Array.getElem?_eq_some_iff.1 hgg).1 (hn g rfl)]
    exact hgg
theorem OwnN.below {w w' : World} {base : Nat} {v : Value} {ts : List Nd} (h : OwnN w base v ts) (hb : Below w.heap.size w w') : OwnN w' base v ts := h.keeps (Keeps.of_below (S := fun _ => False) hb) (fun _ _ e => e)
theorem OwnN.form {w : World} {base : Nat} {v : Value} {ts : List Nd} (h : OwnN w base v ts) : ∃ a c, v = .slice a ts.length c := by
  rcases h.2 with ⟨rfl, h0⟩ | ⟨g, cap, cur, rfl, _⟩
  · exact ⟨none, 0, by rw [h0]⟩
  · exact ⟨_, _, rfl⟩
/-- a node in a block of its own -/
def NdB (w : World) (g : Nat) (t : Nd) : Prop := w.heap[g]? = some (.cells (encN t).toArray 37 (0, 0))
theorem NdB.lt {w : World} {g : Nat} {t : Nd} (h : NdB w g t) : g < w.heap.size := (Array.getElem?_eq_some_iff.1 h).1
theorem NdB.cells {w : World} {g : Nat} {t : Nd} (h : NdB w g t) : w.cell? ⟨g, 0, none⟩ = some (.int .i64 t.op) ∧ w.cell? ⟨g, 1, none⟩ = some (.int .u64 t.n) ∧ w.cell? ⟨g, 2, none⟩ = some (.string t.s) ∧ w.cell? ⟨g, 3, none⟩ = some (.slice t.ka t.kn t.kc) ∧ w.cell? ⟨g, 4, none⟩ = some (.int .i64 t.at_) := by
  refine ⟨?_, ?_, ?_, ?_, ?_⟩ <;> rw [cell_of_row w g _ _ _ _ h] <;> rfl
theorem NdB.thawed {w : World} {g : Nat} {t : Nd} (h : NdB w g t) (i : Nat) : w.frozen? ⟨g, i, none⟩ = false := by
  simp [World.frozen?, show w.heap[g]? = _ from h]
theorem NdB.keeps {S : Nat → Prop} {w w' : World} {g : Nat} {t : Nd} (h : NdB w g t) (hk : Keeps S w w') (hn : ¬ S g) : NdB w' g t := (hk.block g h.lt hn).trans h
theorem run_appendN {w : World} {base : Nat} {v : Value} {ts : List Nd} {t : Nd} {g cap : Nat} (ty : TypeId) (hown : OwnN w base v ts) (hg : NdB w g t) (hb : ts.length ≤ 1048576) (hbase : base ≤ w.heap.size) :
    ∃ v' w', (Builtin.append_ #[26, 26] ty #[v, .slice (some ⟨g, 0, none⟩) 1 cap]).run Tryz.prog w = .ok v' w' ∧ OwnN w' base v' (ts ++ [t]) ∧ w.grownBy w' v.ownBlock ∧ (v'.ownBlock = v.ownBlock ∨ v'.ownBlock = some w.heap.size) := by
  obtain ⟨i, hi, hz0, hz1, hz2⟩ := info_parts info_nd
  obtain ⟨h0, h1, h2, h3, h4⟩ := hg.cells
  obtain ⟨v', w', r1, r2, r3, _, r5⟩ := run_append_own_at (P := Tryz.prog) w base 26 ty 37 i (.agg #[.int .i64 0, .int .u64 0, .string ⟨#[]⟩, .slice none 0 0, .int .i64 0]) 5 64 Tryz.underlying26 hi hz0 hz1 hz2 rfl (by omega) v ts.length (encNs ts) hown ⟨g, 0, none⟩ 1 cap (encN t) rfl (fun j u hj => by
    rw [Addr.add_lit, Nat.zero_add]
    match j, hj with
    | 0, hj => rw [h0]; exact hj
    | 1, hj => rw [h1]; exact hj
    | 2, hj => rw [h2]; exact hj
    | 3, hj => rw [h3]; exact hj
    | 4, hj => rw [h4]; exact hj) (encN_one t) (by unfold maxLen; omega) (by omega) hbase
  refine ⟨v', w', r1, ?_, r3, r5⟩
  unfold OwnN
  rw [List.length_append, encNs_append, show encNs [t] = encN t from List.append_nil _]
  exact r2
theorem wpList_appendN {w : World} {ops : Array Oper} {rest : List Oper} {o : Oper} {a : Act} {Q : Exit → Act → World → Prop} (s x : Operand) (hw : Region.wanted o (yielded ops a.tmps) = true)
    (ho : o.op = .call { callee := .builtin .append, args := #[s, x], argTypes := #[26, 26] })
    {base : Nat} {v : Value} {ns : List Nd} (t : Nd) {g cap : Nat} (hs : a.eval s = v) (hown : OwnN w base v ns) (hx : a.eval x = .slice (some ⟨g, 0, none⟩) 1 cap) (hg : NdB w g t) (hb : ns.length ≤ 1048576) (hbase : base ≤ w.heap.size)
    (h : ∀ v' w', OwnN w' base v' (ns ++ [t]) → w.grownBy w' v.ownBlock → (v'.ownBlock = v.ownBlock ∨ v'.ownBlock = some w.heap.size) → wpList Tryz.prog ops Q rest (a.put o.dst v') w') : wpList Tryz.prog ops Q (o :: rest) a w := by
  refine wpList_step fun K hK => ?_
  rw [if_pos hw]
  obtain ⟨v', w', hr, h2, h3, h4⟩ := run_appendN o.type hown hg hb hbase (cap := cap)
  unfold Oper.wp execOp
  simp only [ho, resolve, invoke, builtin, Sem.run_bind, Sem.run_pure, Result.andThen_ok, List.map_toArray, List.map_cons, List.map_nil, hs, hx, hr]
  exact hK _ _ (h v' w' h2 h3 h4)
theorem OwnN.tag {w : World} {base : Nat} {v : Value} {ns : List Nd} (h : OwnN w base v ns) : ∀ k, v.ownBlock = some k → ∃ cur, w.heap[k]? = some (.cells cur 37 (0, 0)) := by
  intro k hk
  rcases h.2 with ⟨rfl, _⟩ | ⟨g, cap, cur, rfl, hb, hg, r⟩
  · cases hk
  · cases hk
    exact ⟨cur, hg⟩
/-- what a reader of expressions leaves of the parser -/
def Idle (p q : Par) : Prop := q.whole = p.whole ∧ q.pos = p.pos ∧ q.word = p.word ∧ q.wat = p.wat ∧ q.index = p.index ∧ q.top = p.top ∧ q.nodes = p.nodes
theorem Idle.refl (p : Par) : Idle p p := ⟨rfl, rfl, rfl, rfl, rfl, rfl, rfl⟩
theorem Idle.trans {p q r : Par} (h : Idle p q) (k : Idle q r) : Idle p r := ⟨k.1.trans h.1, k.2.1.trans h.2.1, k.2.2.1.trans h.2.2.1, k.2.2.2.1.trans h.2.2.2.1, k.2.2.2.2.1.trans h.2.2.2.2.1, k.2.2.2.2.2.1.trans h.2.2.2.2.2.1, k.2.2.2.2.2.2.trans h.2.2.2.2.2.2⟩
/-- what a reader of expressions leaves as it was: all but the parser, its words and its nodes -/
structure Me (pb base : Nat) (w : World) (p : Par) (w' : World) (p' : Par) : Prop where
  keeps : Keeps (fun k => k = pb ∨ base ≤ k) w w'
  stay : ∀ k, k < w.heap.size → k ≠ pb → p.words.ownBlock ≠ some k → p.items.ownBlock ≠ some k → w'.heap[k]? = w.heap[k]? ∧ p'.words.ownBlock ≠ some k ∧ p'.items.ownBlock ≠ some k
  idle : Idle p p'
theorem Me.refl (pb base : Nat) (w : World) (p : Par) : Me pb base w p w p := ⟨Keeps.refl _ _, fun _ _ _ h1 h2 => ⟨rfl, h1, h2⟩, Idle.refl p⟩
theorem Me.trans {pb base : Nat} {a b c : World} {p q r : Par} (h : Me pb base a p b q) (k : Me pb base b q c r) : Me pb base a p c r :=
  ⟨h.keeps.trans k.keeps (fun _ _ h => h), fun i h1 h2 h3 h4 => by
    obtain ⟨x1, x2, x3⟩ := h.stay i h1 h2 h3 h4
    obtain ⟨y1, y2, y3⟩ := k.stay i (Nat.lt_of_lt_of_le h1 h.keeps.size) h2 x2 x3
    exact ⟨y1.trans x1, y2, y3⟩, h.idle.trans k.idle⟩
theorem Me.alloc {pb base : Nat} {a b : World} {p q : Par} (h : Me pb base a p b q) (o : Obj) : Me pb base a p (b.alloc o) q :=
  h.trans ⟨Keeps.alloc b o, fun k hk _ h1 h2 => ⟨Below.heap_alloc b o k hk, h1, h2⟩, Idle.refl q⟩
theorem Me.drew {pb base : Nat} {a b : World} {p q : Par} (h : Me pb base a p b q) : Me pb base a p b.drew q := ⟨h.keeps.drew, h.stay, h.idle⟩
theorem Me.cell {pb base : Nat} {a b : World} {p q : Par} (h : Me pb base a p b q) {k i : Nat} {v : Value} (hc : a.cell? ⟨k, i, none⟩ = some v) (h1 : k ≠ pb) (h2 : p.words.ownBlock ≠ some k) (h3 : p.items.ownBlock ≠ some k) : b.cell? ⟨k, i, none⟩ = some v :=
  (World.cell?_of_block (a := ⟨k, i, none⟩) (h.stay k (World.block_lt_of_cell? a _ hc) h1 h2 h3).1).trans hc
/-- the lexemes that are ahead, and the nodes -/
structure Ex (w : World) (pb base b o cap g lc : Nat) (zs : List Nat) (ts : List Tok) (k : Nat) (par : Par) (ws : List ByteArray) (ns : List Nd) : Prop where
  rt : Rt w pb base b o cap g lc zs ts k par ws
  nd : OwnN w base par.items ns
theorem Ex.ne {w : World} {pb base b o cap g lc : Nat} {zs : List Nat} {ts : List Tok} {k : Nat} {par : Par} {ws : List ByteArray} {ns : List Nd} (h : Ex w pb base b o cap g lc zs ts k par ws ns) : ∀ i, par.words.ownBlock = some i → par.items.ownBlock ≠ some i := fun i h1 h2 => by
  obtain ⟨c, hc⟩ := h.rt.own.tag i h1
  obtain ⟨d, hd⟩ := h.nd.tag i h2
  rw [hc] at hd
  simp only [Option.some.injEq, Obj.cells.injEq] at hd
  exact absurd hd.2.1 (by decide)
/-- a step of the lexemes alone -/
theorem Ex.lexed {w w' : World} {pb base b o cap g lc : Nat} {zs : List Nat} {ts : List Tok} {k k' : Nat} {par par' : Par} {ws ws' : List ByteArray} {ns : List Nd} (h : Ex w pb base b o cap g lc zs ts k par ws ns) (hi : par'.items = par.items) (hid : Idle par par') (hl : Lie w pb par.words par'.words) (hk : Keeps (fun k => k = pb ∨ par.words.ownBlock = some k) w w') (hr : Rt w' pb base b o cap g lc zs ts k' par' ws') : Ex w' pb base b o cap g lc zs ts k' par' ws' ns ∧ Me pb base w par w' par' := by
  refine ⟨⟨hr, ?_⟩, (Mv.of h.rt.own hk).keeps, fun i h1 h2 h3 h4 => ⟨hk.block i h1 (fun e => e.elim h2 h3), ?_, by rw [hi]; exact h4⟩, hid⟩
  · rw [hi]
    refine h.nd.keeps hk (fun i h1 h2 => ?_)
    rcases h2 with e | e
    · have := h.nd.lt i h1; have := h.rt.low; omega
    · exact h.ne i e h1
  · rcases hl.2 with e | ⟨j, e, hj⟩
    · rw [e]; exact h3
    · rw [e]
      intro e2
      cases e2
      omega
end Go.Proofs.YtmkibolkcjallaaGreatDoor
