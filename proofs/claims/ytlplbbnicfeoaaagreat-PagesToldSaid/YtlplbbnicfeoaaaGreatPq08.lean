import Derived.Test.YtlplbbnicfeoaaaGreatPq06
import Derived.Laws.OwnMore
import Derived.Test.YtlplbbnicfeoaaaGreatPq07
import Derived.Test.YtlplbbnicfeoaaaGreatPq03
/- Pages: rows of leaves that are owned (written by parts/gen_pgown.py). Own work. -/
namespace Go.Proofs.YtlplbbnicfeoaaaGreat
open Go.RowKit Wk
set_option linter.unusedVariables false
def encL (x : L6) : List Value := [.int .u64 (x.v : Int), .int .u64 (x.p : Int), .int .i64 x.n, .bool x.big, .bool x.wr, .bool x.ex]
def encLs (xs : List L6) : List Value := xs.flatMap encL
theorem encLs_length (xs : List L6) : (encLs xs).length = xs.length * 6 := by
  induction xs with
  | nil => rfl
  | cons x xs ih => simp only [encLs, List.flatMap_cons, List.length_append, List.length_cons] at ih ⊢; rw [ih]; simp only [encL, List.length_cons, List.length_nil]; omega
theorem encLs_append (xs ys : List L6) : encLs (xs ++ ys) = encLs xs ++ encLs ys := by simp [encLs]
theorem encL_one (t : L6) : ∀ u ∈ encL t, u.oneCell' = true := by
  intro u hu
  simp only [encL, List.mem_cons, List.not_mem_nil, or_false] at hu
  rcases hu with rfl | rfl | rfl | rfl | rfl | rfl <;> rfl
theorem encLs_get (xs : List L6) (j i : Nat) (h : j < xs.length) (hi : i < 6) : (encLs xs)[j * 6 + i]? = (encL xs[j])[i]? := by
  induction xs generalizing j with
  | nil => simp at h
  | cons x xs ih =>
    cases j with
    | zero =>
      rw [show encLs (x :: xs) = encL x ++ encLs xs from rfl, List.getElem?_append_left (by simp [encL]; omega)]
      simp
    | succ j =>
      have := ih j (by simpa using h)
      rw [show encLs (x :: xs) = encL x ++ encLs xs from rfl, List.getElem?_append_right (by simp [encL]; omega)]
      rw [show (j + 1) * 6 + i - (encL x).length = j * 6 + i by simp [encL]; omega, this]
      rfl
theorem info_leaf : (Tryz.prog.info? 26).map (fun i => (i.zero, i.size, i.bytes)) = some (some (.agg #[.int .u64 0, .int .u64 0, .int .i64 0, .bool false, .bool false, .bool false]), 6, 32) := by kernel_rfl
/-- a row of runs that is owned -/
def OwnL (w : World) (base : Nat) (v : Value) (xs : List L6) : Prop := w.ownsRow base 26 6 v xs.length (encLs xs)
theorem OwnL.nil (w : World) (base : Nat) : OwnL w base (.slice none 0 0) [] := ⟨rfl, .inl ⟨rfl, rfl⟩⟩
theorem OwnL.lt {w : World} {base : Nat} {v : Value} {xs : List L6} (h : OwnL w base v xs) : ∀ k, v.ownBlock = some k → base ≤ k ∧ k < w.heap.size := World.ownsRow.lt h
theorem OwnL.keeps {S : Nat → Prop} {w w' : World} {base : Nat} {v : Value} {xs : List L6} (h : OwnL w base v xs) (hk : Keeps S w w') (hn : ∀ k, v.ownBlock = some k → ¬ S k) : OwnL w' base v xs := by
  refine ⟨h.1, ?_⟩
  rcases h.2 with hv | ⟨g, cap, cur, rfl, hb, hgg, rest⟩
  · exact .inl hv
  · refine .inr ⟨g, cap, cur, rfl, hb, ?_, rest⟩
    rw [hk.block g (Array.getElem?_eq_some_iff.1 hgg).1 (hn g rfl)]
    exact hgg
theorem OwnL.below {w w' : World} {base : Nat} {v : Value} {xs : List L6} (h : OwnL w base v xs) (hb : Below w.heap.size w w') : OwnL w' base v xs := h.keeps (Keeps.of_below (S := fun _ => False) hb) (fun _ _ e => e)
theorem OwnL.form {w : World} {base : Nat} {v : Value} {xs : List L6} (h : OwnL w base v xs) : ∃ a c, v = .slice a xs.length c := by
  rcases h.2 with ⟨rfl, h0⟩ | ⟨g, cap, cur, rfl, _⟩
  · exact ⟨none, 0, by rw [h0]⟩
  · exact ⟨_, _, rfl⟩
theorem OwnL.lv {w : World} {base : Nat} {v : Value} {xs : List L6} (h : OwnL w base v xs) (hx : ∀ x ∈ xs, L6.ok x) : Lv w v xs := by
  have h' := h
  rcases h.2 with ⟨rfl, h0⟩ | ⟨g, cap, cur, rfl, hb, hg, h1, h2, hs, ht⟩
  · exact ⟨none, 0, by rw [h0], by omega, Nat.zero_le _, hx, fun i hi => by omega⟩
  · have hc : ∀ j i, j < xs.length → i < 6 → ∀ hj : j < xs.length, w.cell? ⟨g, j * 6 + i, none⟩ = (encL xs[j])[i]? := fun j i _ hi hj => by
      rw [World.ownsRow.cellAt h' (j * 6 + i) (by omega)]
      exact encLs_get xs j i hj hi
    refine ⟨_, cap, rfl, h1, h2, hx, fun i hi => ⟨g, 0, rfl, ?_, ?_, ?_, ?_, ?_, ?_⟩⟩
    · rw [Nat.zero_add]; exact hc i 0 hi (by omega) hi
    · rw [Nat.zero_add]; exact hc i 1 hi (by omega) hi
    · rw [Nat.zero_add]; exact hc i 2 hi (by omega) hi
    · rw [Nat.zero_add]; exact hc i 3 hi (by omega) hi
    · rw [Nat.zero_add]; exact hc i 4 hi (by omega) hi
    · rw [Nat.zero_add]; exact hc i 5 hi (by omega) hi
theorem wpList_appendL6 {w : World} {base : Nat} {ops : Array Oper} {rest : List Oper} {o : Oper} {a : Act} {Q : Exit → Act → World → Prop} (hgd : o.guard = none) (s x : Operand)
    (ho : o.op = .call { callee := .builtin .append, args := #[s, x], argTypes := #[22, 22] }) {v : Value} {xs : List L6} {t : L6} {g cap : Nat} (hown : OwnL w base v xs) (hs : a.eval s = v) (hx : a.eval x = .slice (some ⟨g, 0, none⟩) 1 cap) (hg : w.heap[g]? = some (.cells (encL t).toArray 26 (0, 0))) (hb : (xs.length + 1) * 60 ≤ 140737488355328) (hbase : base ≤ w.heap.size)
    (h : ∀ v' w', Hid (OwnL w' base v' (xs ++ [t])) → Hid (w.grownBy w' v.ownBlock) → Hid (v'.ownBlock = v.ownBlock ∨ v'.ownBlock = some w.heap.size) → wpList Tryz.prog ops Q rest (a.put o.dst v') w') : wpList Tryz.prog ops Q (o :: rest) a w :=
  wpList_plain hgd fun K hK => by
    obtain ⟨i, hi, hz0, hz1, hz2⟩ := info_parts info_leaf
    obtain ⟨v', w', r1, r2, r3, _, r5⟩ := run_append_own_at (P := Tryz.prog) w base 22 o.type 26 i (.agg #[.int .u64 0, .int .u64 0, .int .i64 0, .bool false, .bool false, .bool false]) 6 32 Tryz.underlying22 hi hz0 hz1 hz2 rfl (by omega) v xs.length (encLs xs) hown ⟨g, 0, none⟩ 1 cap (encL t) rfl (fun j u hj => by
      rw [Addr.add_lit, Nat.zero_add, cell_of_row _ _ _ _ _ _ hg, List.getElem?_toArray]
      exact hj) (encL_one t) (by unfold maxLen; omega) (by omega) hbase
    have h2 : OwnL w' base v' (xs ++ [t]) := by
      unfold OwnL
      rw [List.length_append, encLs_append, show encLs [t] = encL t from List.append_nil _]
      exact r2
    unfold Oper.wp execOp
    simp only [ho, resolve, invoke, builtin, Sem.run_bind, Sem.run_pure, Result.andThen_ok, List.map_toArray, List.map_cons, List.map_nil, hs, hx, r1]
    exact hK _ _ (h v' w' h2 r3 r5)
end Go.Proofs.YtlplbbnicfeoaaaGreat
/- Pages: Runs of any rows. Own work. -/
namespace Go.Proofs.YtlplbbnicfeoaaaGreat
open Go.RowKit Wk
set_option linter.unusedVariables false
/-- two rows as one -/
def joinL (y x : L6) : L6 := ⟨y.v, y.p, y.n + x.n, y.big, y.wr, y.ex⟩
def goesF (y x : L6) : Bool := decide (x.v = y.v + y.n.toNat * 4096 ∧ x.p = y.p + y.n.toNat * 4096 ∧ x.big = y.big ∧ x.wr = y.wr ∧ x.ex = y.ex)
/-- the rows joined, behind those that are joined already -/
def runsF : List L6 → List L6 → List L6
  | acc, [] => acc
  | acc, x :: xs =>
    match acc.getLast? with
    | none => runsF [x] xs
    | some y => if goesF y x = true then runsF (acc.dropLast ++ [joinL y x]) xs else runsF (acc ++ [x]) xs
theorem runsF_none (x : L6) (xs : List L6) : runsF [] (x :: xs) = runsF [x] xs := rfl
theorem runsF_some (bs : List L6) (y x : L6) (xs : List L6) : runsF (bs ++ [y]) (x :: xs) = if goesF y x = true then runsF (bs ++ [joinL y x]) xs else runsF (bs ++ [y] ++ [x]) xs := by
  rw [runsF]
  simp only [List.getLast?_append, List.getLast?_singleton, List.dropLast_concat, Option.some_or]
/-- a row that may be -/
def L6.fine (x : L6) : Prop := 1 ≤ x.n ∧ x.v + x.n.toNat * 4096 ≤ 549755813888 ∧ x.p + x.n.toNat * 4096 ≤ 4294967296
set_option maxRecDepth 100000 in
theorem L6.fine.join {y x : L6} (hy : y.fine) (hx : x.fine) (hg : goesF y x = true) : (joinL y x).fine := by
  obtain ⟨y1, y2, y3⟩ := hy
  obtain ⟨x1, x2, x3⟩ := hx
  obtain ⟨g1, g2, _⟩ := of_decide_eq_true hg
  refine ⟨?_, ?_, ?_⟩
  · show 1 ≤ y.n + x.n
    omega
  · show y.v + (y.n + x.n).toNat * 4096 ≤ 549755813888
    have e : (y.n + x.n).toNat = y.n.toNat + x.n.toNat := by omega
    rw [e]
    omega
  · show y.p + (y.n + x.n).toNat * 4096 ≤ 4294967296
    have e : (y.n + x.n).toNat = y.n.toNat + x.n.toNat := by omega
    rw [e]
    omega
theorem encLs_at (bs : List L6) (y : L6) (i : Nat) (hi : i < 6) : (encLs (bs ++ [y]))[bs.length * 6 + i]? = (encL y)[i]? := by
  rw [encLs_get (bs ++ [y]) bs.length i (by simp) hi]
  simp
theorem encLs_put (bs : List L6) (y : L6) (c : Int) : (encLs (bs ++ [y])).set (bs.length * 6 + 2) (.int .i64 c) = encLs (bs ++ [⟨y.v, y.p, c, y.big, y.wr, y.ex⟩]) := by
  rw [encLs_append, encLs_append, List.set_append_right _ _ (by rw [encLs_length]; omega), encLs_length, show bs.length * 6 + 2 - bs.length * 6 = 2 by omega]
  rfl
/-- a row that is owned and not empty -/
theorem OwnL.last {w : World} {base : Nat} {v : Value} {bs : List L6} {y : L6} (h : OwnL w base v (bs ++ [y])) : ∃ g cap, v = .slice (some ⟨g, 0, none⟩) (bs.length + 1) cap ∧ bs.length + 1 ≤ cap ∧ base ≤ g ∧ g < w.heap.size ∧ (∀ i, i < 6 → w.cell? ⟨g, bs.length * 6 + i, none⟩ = (encL y)[i]?) ∧ (∀ i, w.frozen? ⟨g, i, none⟩ = false) ∧ (∀ c : Int, OwnL (w.setCell ⟨g, bs.length * 6 + 2, none⟩ (.int .i64 c)) base v (bs ++ [⟨y.v, y.p, c, y.big, y.wr, y.ex⟩])) := by
  have h' := h
  have hl : (bs ++ [y]).length = bs.length + 1 := by simp
  rcases h.2 with ⟨rfl, h0⟩ | ⟨g, cap, cur, rfl, hb, hg, h1, h2, hs, ht⟩
  · simp at h0
  · refine ⟨g, cap, by rw [hl], by rw [hl] at h1; exact h1, hb, (Array.getElem?_eq_some_iff.1 hg).1, fun i hi => ?_, fun i => ?_, fun c => ?_⟩
    · rw [World.ownsRow.cellAt h' (bs.length * 6 + i) (by rw [hl]; omega)]
      exact encLs_at bs y i hi
    · simp [World.frozen?, hg]
    · have h3 := (World.ownsRow.stored h' (bs.length * 6 + 2) (.int .i64 c)).1
      rw [encLs_put] at h3
      have e3 : (bs ++ [(⟨y.v, y.p, c, y.big, y.wr, y.ex⟩ : L6)]).length = (bs ++ [y]).length := by simp
      unfold OwnL
      rw [e3]
      exact h3
theorem goes_any {y x : L6} (hy : y.fine) (w : World) : Calls Tryz.prog 53 #[V6 y, V6 x] w fun e w' => e = .returned (.bool (goesF y x)) ∧ Below w.heap.size w w' := by
  obtain ⟨v, p, n, b, wr, ex⟩ := y
  obtain ⟨y1, y2, y3⟩ := hy
  simp only at y1 y2 y3
  obtain ⟨m, rfl⟩ : ∃ m : Nat, n = (m : Int) := ⟨n.toNat, by omega⟩
  have y2 : v + m * 4096 ≤ 549755813888 := y2
  have y3 : p + m * 4096 ≤ 4294967296 := y3
  have y4 : v + m * 4096 ≤ 18446744073709551615 := Nat.le_trans y2 (by decide)
  have y5 : p + m * 4096 ≤ 18446744073709551615 := Nat.le_trans y3 (by decide)
  exact goesOn_any y4 y5 w
end Go.Proofs.YtlplbbnicfeoaaaGreat
/- Pages: what the builder makes, plainly. Own work. -/
namespace Go.Proofs.YtlplbbnicfeoaaaGreat
open Go.RowKit Wk
set_option linter.unusedVariables false
set_option maxRecDepth 20000
/-- one leaf entry of a row -/
structure Un where
  v : Nat
  p : Nat
  big : Bool
  wr : Bool
  ex : Bool
def Un.len (u : Un) : Nat := if u.big = true then 2097152 else 4096
def Un.val (u : Un) : Nat := u.p + (1 + nbit u.wr 2 + nbit u.ex 4 + nbit u.big 8)
def unitAt (x : L6) (i : Nat) : Un := ⟨x.v + i * unitF x, x.p + i * unitF x, x.big, x.wr, x.ex⟩
def cntU (x : L6) : Nat := x.n.toNat * 4096 / unitF x
def unitsN (x : L6) (n : Nat) : List Un := (List.range n).map (unitAt x)
def unitsL (x : L6) : List Un := unitsN x (cntU x)
def units (xs : List L6) : List Un := xs.flatMap unitsL
/-- where the builder stands: tables begun; the open ones; the entries behind the last one; which tables there are; what they hold -/
structure Bst where
  nx : Nat
  a1 : Nat
  a2 : Nat
  n0 : Nat
  n1 : Nat
  A : Nat → Bool
  B : Nat → Bool
  L1 : Nat → Nat
  L2 : Nat → Nat
  M : Nat → Nat
def putB (A : Nat → Bool) (i : Nat) : Nat → Bool := fun j => if j = i then true else A j
theorem putB_at (A : Nat → Bool) (i : Nat) : putB A i i = true := if_pos rfl
theorem putB_ne (A : Nat → Bool) {i j : Nat} (h : j ≠ i) : putB A i j = A j := if_neg h
theorem putM_at (M : Nat → Nat) (i x : Nat) : putM M i x i = x := if_pos rfl
theorem putM_ne (M : Nat → Nat) {i j x : Nat} (h : j ≠ i) : putM M i x j = M j := if_neg h
def step1 (base : Nat) (s : Bst) (v : Nat) : Bst :=
  if v / 1073741824 < s.n0 then s else { s with nx := s.nx + 1, a1 := s.nx, n0 := v / 1073741824 + 1, A := putB s.A (v / 1073741824), M := putM s.M (v / 1073741824) (base + s.nx * 4096 + 1) }
def step2 (base : Nat) (s : Bst) (v : Nat) : Bst :=
  if v / 2097152 < s.n1 then s else { s with nx := s.nx + 1, a2 := s.nx, n1 := v / 2097152 + 1, B := putB s.B (v / 2097152), M := putM s.M (s.a1 * 512 + v / 2097152 % 512) (base + s.nx * 4096 + 1) }
def leafS (s : Bst) (u : Un) : Bst :=
  if u.big = true then { s with L1 := putM s.L1 (u.v / 2097152) u.val, M := putM s.M (s.a1 * 512 + u.v / 2097152 % 512) u.val } else { s with L2 := putM s.L2 (u.v / 4096) u.val, M := putM s.M (s.a2 * 512 + u.v / 4096 % 512) u.val }
def downS (base : Nat) (s : Bst) (u : Un) : Bst := if u.big = true then step1 base s u.v else step2 base (step1 base s u.v) u.v
def stepU (base : Nat) (s : Bst) (u : Un) : Bst := leafS (downS base s u) u
def bst0 : Bst := ⟨1, 0, 0, 0, 0, fun _ => false, fun _ => false, fun _ => 0, fun _ => 0, fun _ => 0⟩
def buildU (base : Nat) (s : Bst) (us : List Un) : Bst := us.foldl (stepU base) s
def Ris : Nat → List Un → Prop
  | _, [] => True
  | t, u :: us => t ≤ u.v ∧ u.v % u.len = 0 ∧ u.p % u.len = 0 ∧ u.v + u.len ≤ 549755813888 ∧ u.p + u.len ≤ 4294967296 ∧ Ris (u.v + u.len) us
/-- how many of the first n there are -/
def cntB (f : Nat → Bool) : Nat → Nat
  | 0 => 0
  | n + 1 => cntB f n + (if f n = true then 1 else 0)
theorem cntB_mono (f : Nat → Bool) {a b : Nat} (h : a ≤ b) : cntB f a ≤ cntB f b := by
  induction b with
  | zero => simp [show a = 0 by omega]
  | succ b ih =>
    by_cases e : a = b + 1
    · rw [e]; exact Nat.le_refl _
    · exact Nat.le_trans (ih (by omega)) (Nat.le_add_right _ _)
theorem cntB_lt {f : Nat → Bool} {a b : Nat} (h : a < b) (ha : f a = true) : cntB f a < cntB f b := by
  have h1 : cntB f (a + 1) = cntB f a + 1 := by simp [cntB, ha]
  have h2 := cntB_mono f (show a + 1 ≤ b from h)
  omega
theorem cntB_same {f g : Nat → Bool} {a : Nat} (h : ∀ i, i < a → f i = g i) : cntB f a = cntB g a := by
  induction a with
  | zero => rfl
  | succ a ih => simp only [cntB]; rw [ih (fun i hi => h i (by omega)), h a (by omega)]
theorem cntB_none {f : Nat → Bool} {a b : Nat} (h : a ≤ b) (hn : ∀ i, a ≤ i → i < b → f i = false) : cntB f b = cntB f a := by
  induction b with
  | zero => rw [show a = 0 by omega]
  | succ b ih =>
    by_cases e : a = b + 1
    · rw [e]
    · simp only [cntB]
      rw [ih (by omega) (fun i h1 h2 => hn i h1 (by omega)), hn b (by omega) (by omega)]
      simp
theorem cntB_put {f : Nat → Bool} {a k : Nat} (h : a ≤ k) : cntB (putB f k) a = cntB f a := cntB_same fun i hi => by simp [putB, show i ≠ k by omega]
def T1 (A B : Nat → Bool) (a : Nat) : Nat := 1 + cntB A a + cntB B (a * 512)
def T2 (A B : Nat → Bool) (b : Nat) : Nat := 1 + cntB A (b / 512 + 1) + cntB B b
/-- what there is of the tables, and where it lies -/
structure Cl (base : Nat) (s : Bst) : Prop where
  n0 : s.n0 ≤ 512
  n1 : s.n1 ≤ 262144
  hA : ∀ a, s.A a = true → a < s.n0
  hB : ∀ b, s.B b = true → b < s.n1
  lA : s.n0 ≠ 0 → s.A (s.n0 - 1) = true
  lB : s.n1 ≠ 0 → s.B (s.n1 - 1) = true
  BA : ∀ b, s.B b = true → s.A (b / 512) = true
  L1A : ∀ b, s.L1 b ≠ 0 → s.A (b / 512) = true
  L2B : ∀ c, s.L2 c ≠ 0 → s.B (c / 512) = true
  nx : s.nx = 1 + cntB s.A s.n0 + cntB s.B s.n1
  a1 : s.n0 ≠ 0 → s.a1 = T1 s.A s.B (s.n0 - 1)
  a2 : s.n1 ≠ 0 → s.a2 = T2 s.A s.B (s.n1 - 1)
  c0 : ∀ i, i < 512 → s.M i = cond (s.A i) (base + T1 s.A s.B i * 4096 + 1) 0
  c1 : ∀ a, s.A a = true → ∀ i, i < 512 → s.M (T1 s.A s.B a * 512 + i) = cond (s.B (a * 512 + i)) (base + T2 s.A s.B (a * 512 + i) * 4096 + 1) (s.L1 (a * 512 + i))
  c2 : ∀ b, s.B b = true → ∀ i, i < 512 → s.M (T2 s.A s.B b * 512 + i) = s.L2 (b * 512 + i)
  c3 : ∀ x, s.nx * 512 ≤ x → s.M x = 0
theorem cl0 (base : Nat) : Cl base bst0 where
  n0 := Nat.zero_le _
  n1 := Nat.zero_le _
  hA := fun _ h => by cases h
  hB := fun _ h => by cases h
  lA := fun h => absurd rfl h
  lB := fun h => absurd rfl h
  BA := fun _ h => by cases h
  L1A := fun _ h => absurd rfl h
  L2B := fun _ h => absurd rfl h
  nx := rfl
  a1 := fun h => absurd rfl h
  a2 := fun h => absurd rfl h
  c0 := fun _ _ => rfl
  c1 := fun _ h => by cases h
  c2 := fun _ h => by cases h
  c3 := fun _ _ => rfl
theorem Cl.t1_lt {base : Nat} {s : Bst} (h : Cl base s) {a : Nat} (ha : s.A a = true) : T1 s.A s.B a < s.nx := by
  have h1 := cntB_lt (h.hA a ha) ha
  have h2 : cntB s.B (a * 512) ≤ cntB s.B s.n1 := by
    by_cases e : a * 512 ≤ s.n1
    · exact cntB_mono _ e
    · rw [cntB_none (f := s.B) (a := s.n1) (b := a * 512) (by omega) (fun i hi _ => by
        cases hb : s.B i with
        | false => rfl
        | true => have := h.hB i hb; omega)]
      exact Nat.le_refl _
  rw [h.nx]
  unfold T1
  omega
theorem Cl.cA {base : Nat} {s : Bst} (h : Cl base s) {a : Nat} : cntB s.A a ≤ cntB s.A s.n0 := by
  by_cases e : a ≤ s.n0
  · exact cntB_mono _ e
  · rw [cntB_none (f := s.A) (a := s.n0) (b := a) (by omega) (fun i hi _ => by
      cases hb : s.A i with
      | false => rfl
      | true => have := h.hA i hb; omega)]
    exact Nat.le_refl _
theorem Cl.t2_lt {base : Nat} {s : Bst} (h : Cl base s) {b : Nat} (hb : s.B b = true) : T2 s.A s.B b < s.nx := by
  have h1 := cntB_lt (h.hB b hb) hb
  have h2 := h.cA (a := b / 512 + 1)
  rw [h.nx]
  unfold T2
  omega
theorem Cl.t11 {base : Nat} {s : Bst} (h : Cl base s) {a a' : Nat} (ha : s.A a = true) (ha' : s.A a' = true) (hne : a ≠ a') : T1 s.A s.B a ≠ T1 s.A s.B a' := by
  unfold T1
  rcases Nat.lt_or_gt_of_ne hne with e | e
  · have h1 := cntB_lt e ha
    have h2 := cntB_mono s.B (show a * 512 ≤ a' * 512 by omega)
    omega
  · have h1 := cntB_lt e ha'
    have h2 := cntB_mono s.B (show a' * 512 ≤ a * 512 by omega)
    omega
theorem Cl.t22 {base : Nat} {s : Bst} (h : Cl base s) {b b' : Nat} (hb : s.B b = true) (hb' : s.B b' = true) (hne : b ≠ b') : T2 s.A s.B b ≠ T2 s.A s.B b' := by
  unfold T2
  rcases Nat.lt_or_gt_of_ne hne with e | e
  · have h1 := cntB_lt e hb
    have h2 := cntB_mono s.A (show b / 512 + 1 ≤ b' / 512 + 1 by omega)
    omega
  · have h1 := cntB_lt e hb'
    have h2 := cntB_mono s.A (show b' / 512 + 1 ≤ b / 512 + 1 by omega)
    omega
theorem Cl.t12 {base : Nat} {s : Bst} (h : Cl base s) {a b : Nat} (ha : s.A a = true) (hb : s.B b = true) : T1 s.A s.B a ≠ T2 s.A s.B b := by
  unfold T1 T2
  by_cases e : a ≤ b / 512
  · have h1 := cntB_lt (show a < b / 512 + 1 by omega) ha
    have h2 := cntB_mono s.B (show a * 512 ≤ b by omega)
    omega
  · have h1 := cntB_lt (show b < a * 512 by omega) hb
    have h2 := cntB_mono s.A (show b / 512 + 1 ≤ a by omega)
    omega
theorem Cl.noA {base : Nat} {s : Bst} (h : Cl base s) {a : Nat} (e : s.n0 ≤ a) : s.A a = false := by
  cases hb : s.A a with
  | false => rfl
  | true => have := h.hA a hb; omega
theorem Cl.noB {base : Nat} {s : Bst} (h : Cl base s) {a : Nat} (e : s.n1 ≤ a) : s.B a = false := by
  cases hb : s.B a with
  | false => rfl
  | true => have := h.hB a hb; omega
theorem Cl.n1_le {base : Nat} {s : Bst} (h : Cl base s) : s.n1 ≤ s.n0 * 512 := by
  by_cases e : s.n1 = 0
  · omega
  · have h1 := h.hA _ (h.BA _ (h.lB e))
    omega
set_option maxHeartbeats 1000000 in
theorem Cl.step1 {base : Nat} {s : Bst} (h : Cl base s) {v : Nat} (hv : v < 549755813888) : Cl base (step1 base s v) := by
  unfold Go.Proofs.YtlplbbnicfeoaaaGreat.step1
  by_cases hk : v / 1073741824 < s.n0
  · rw [if_pos hk]; exact h
  rw [if_neg hk]
  have hk5 : v / 1073741824 < 512 := Nat.div_lt_of_lt_mul hv
  generalize v / 1073741824 = k at *
  have hn1 := h.n1_le
  have hcA : cntB s.A k = cntB s.A s.n0 := cntB_none (by omega) (fun i h1 _ => h.noA h1)
  have hcB : cntB s.B (k * 512) = cntB s.B s.n1 := cntB_none (by omega) (fun i h1 _ => h.noB h1)
  have hnA : s.A k = false := h.noA (by omega)
  have eT1 : ∀ a, a ≤ k → T1 (putB s.A k) s.B a = T1 s.A s.B a := fun a ha => by
    unfold T1
    rw [cntB_put ha]
  have eT2 : ∀ b, s.B b = true → T2 (putB s.A k) s.B b = T2 s.A s.B b := fun b hb => by
    have h1 := h.hA _ (h.BA b hb)
    unfold T2
    rw [cntB_put (by omega)]
  have hT : T1 s.A s.B k = s.nx := by unfold T1; rw [hcA, hcB, h.nx]
  refine { n0 := by simp only; omega, n1 := h.n1, hA := ?_, hB := h.hB, lA := ?_, lB := h.lB, BA := ?_, L1A := ?_, L2B := h.L2B, nx := ?_, a1 := ?_, a2 := ?_, c0 := ?_, c1 := ?_, c2 := ?_, c3 := ?_ }
  · intro a ha
    simp only [putB] at ha ⊢
    split at ha
    · omega
    · have := h.hA a ha; omega
  · intro _
    simp [putB]
  · intro b hb
    simp only [putB]
    split
    · rfl
    · exact h.BA b hb
  · intro b hb
    simp only [putB]
    split
    · rfl
    · exact h.L1A b hb
  · simp only
    rw [show cntB (putB s.A k) (k + 1) = cntB s.A s.n0 + 1 by simp only [cntB]; rw [cntB_put (Nat.le_refl _), hcA]; simp [putB], h.nx]
    omega
  · intro _
    simp only
    rw [eT1 _ (by omega), Nat.add_sub_cancel, hT]
  · intro hn
    simp only at hn ⊢
    rw [eT2 _ (h.lB hn), h.a2 hn]
  · intro i hi
    simp only
    by_cases e : i = k
    · subst e
      rw [putM_at, putB_at, eT1 _ (Nat.le_refl _), hT]
      rfl
    · rw [putM_ne _ e, putB_ne _ e, h.c0 i hi]
      cases ha : s.A i with
      | false => rfl
      | true =>
        have := h.hA i ha
        simp only [cond_true]
        rw [eT1 _ (by omega)]
  · intro a ha i hi
    simp only at ha ⊢
    by_cases e : a = k
    · subst e
      have hb : s.B (a * 512 + i) = false := by
        cases hb : s.B (a * 512 + i) with
        | false => rfl
        | true => have := h.hA _ (h.BA _ hb); omega
      have hl : s.L1 (a * 512 + i) = 0 := by
        by_cases e : s.L1 (a * 512 + i) = 0
        · exact e
        · have := h.hA _ (h.L1A _ e); omega
      have h1 : 1 ≤ s.nx := by rw [h.nx]; omega
      rw [eT1 _ (Nat.le_refl _), hT, hb, hl, putM_ne _ (by omega), h.c3 _ (by omega)]
      rfl
    · rw [putB_ne _ e] at ha
      have h1 := h.hA a ha
      have h2 : 1 ≤ T1 s.A s.B a := by unfold T1; omega
      rw [eT1 _ (by omega), putM_ne _ (by omega), h.c1 a ha i hi]
      cases hb : s.B (a * 512 + i) with
      | false => rfl
      | true =>
        simp only [cond_true]
        rw [eT2 _ hb]
  · intro b hb i hi
    simp only at hb ⊢
    have h2 : 1 ≤ T2 s.A s.B b := by unfold T2; omega
    rw [eT2 _ hb, putM_ne _ (by omega), h.c2 b hb i hi]
  · intro x hx
    simp only at hx ⊢
    rw [putM_ne _ (by omega), h.c3 x (by omega)]
set_option maxHeartbeats 1000000 in
theorem Cl.step2 {base : Nat} {s : Bst} (h : Cl base s) {v : Nat} (hv : v / 1073741824 + 1 = s.n0) (hk2 : s.L1 (v / 2097152) = 0) : Cl base (step2 base s v) := by
  unfold Go.Proofs.YtlplbbnicfeoaaaGreat.step2
  by_cases hk : v / 2097152 < s.n1
  · rw [if_pos hk]; exact h
  rw [if_neg hk]
  have hkn : v / 2097152 / 512 + 1 = s.n0 := by omega
  generalize v / 2097152 = k at *
  have h0 := h.n0
  have hcA : cntB s.A (k / 512 + 1) = cntB s.A s.n0 := by rw [hkn]
  have hcB : cntB s.B k = cntB s.B s.n1 := cntB_none (by omega) (fun i h1 _ => h.noB h1)
  have hAk : s.A (k / 512) = true := by have := h.lA (by omega); rwa [← hkn, Nat.add_sub_cancel] at this
  have ha1 : s.a1 = T1 s.A s.B (k / 512) := by rw [h.a1 (by omega), ← hkn, Nat.add_sub_cancel]
  have hnB : s.B k = false := h.noB (by omega)
  have eT1 : ∀ a, s.A a = true → T1 s.A (putB s.B k) a = T1 s.A s.B a := fun a ha => by
    have h1 := h.hA _ ha
    unfold T1
    rw [cntB_put (by omega)]
  have eT2 : ∀ b, b ≤ k → T2 s.A (putB s.B k) b = T2 s.A s.B b := fun b hb => by
    unfold T2
    rw [cntB_put hb]
  have hT : T2 s.A s.B k = s.nx := by unfold T2; rw [hcA, hcB, h.nx]
  refine { n0 := h.n0, n1 := by simp only; omega, hA := h.hA, hB := ?_, lA := h.lA, lB := ?_, BA := ?_, L1A := h.L1A, L2B := ?_, nx := ?_, a1 := ?_, a2 := ?_, c0 := ?_, c1 := ?_, c2 := ?_, c3 := ?_ }
  · intro a ha
    simp only [putB] at ha ⊢
    split at ha
    · omega
    · have := h.hB a ha; omega
  · intro _
    simp [putB]
  · intro b hb
    simp only [putB] at hb ⊢
    split at hb
    · rename_i e; rw [e]; exact hAk
    · exact h.BA b hb
  · intro b hb
    simp only [putB]
    split
    · rfl
    · exact h.L2B b hb
  · simp only
    rw [show cntB (putB s.B k) (k + 1) = cntB s.B s.n1 + 1 by simp only [cntB]; rw [cntB_put (Nat.le_refl _), hcB]; simp [putB], h.nx]
    omega
  · intro hn
    simp only at hn ⊢
    rw [eT1 _ (h.lA hn), h.a1 hn]
  · intro _
    simp only
    rw [eT2 _ (by omega), Nat.add_sub_cancel, hT]
  · intro i hi
    simp only
    have h2 : 1 ≤ s.a1 := by rw [ha1]; unfold T1; omega
    rw [putM_ne _ (by omega), h.c0 i hi]
    cases ha : s.A i with
    | false => rfl
    | true =>
      simp only [cond_true]
      rw [eT1 _ ha]
  · intro a ha i hi
    simp only at ha ⊢
    rw [eT1 _ ha, ha1]
    by_cases e : a * 512 + i = k
    · have ea : a = k / 512 := by omega
      have ei : i = k % 512 := by omega
      rw [e, putB_at, eT2 _ (Nat.le_refl _), hT, ← ea, ← ei, putM_at]
      rfl
    · rw [putM_ne _ ?_, putB_ne _ e, h.c1 a ha i hi]
      · cases hb : s.B (a * 512 + i) with
        | false => rfl
        | true =>
          have := h.hB _ hb
          simp only [cond_true]
          rw [eT2 _ (by omega)]
      · intro e2
        by_cases ea : a = k / 512
        · subst ea; omega
        · have := h.t11 ha hAk ea; omega
  · intro b hb i hi
    simp only at hb ⊢
    rw [ha1]
    by_cases e : b = k
    · subst e
      have h1 := h.t1_lt hAk
      have hl : s.L2 (b * 512 + i) = 0 := by
        by_cases e : s.L2 (b * 512 + i) = 0
        · exact e
        · have h3 := h.L2B _ e; rw [show (b * 512 + i) / 512 = b by omega, hnB] at h3; cases h3
      rw [eT2 _ (Nat.le_refl _), hT, hl, putM_ne _ (by omega), h.c3 _ (by omega)]
    · rw [putB_ne _ e] at hb
      have h1 := h.hB b hb
      have h2 := h.t12 hAk hb
      rw [eT2 _ (by omega), putM_ne _ (by omega), h.c2 b hb i hi]
  · intro x hx
    simp only at hx ⊢
    have h1 := h.t1_lt hAk
    rw [ha1, putM_ne _ (by omega), h.c3 x (by omega)]
theorem Cl.leaf1 {base : Nat} {s : Bst} (h : Cl base s) {u : Un} (hb : u.big = true) (hv : u.v / 1073741824 + 1 = s.n0) (hk2 : s.n1 ≤ u.v / 2097152) : Cl base (leafS s u) := by
  unfold leafS
  rw [if_pos hb]
  have hkn : u.v / 2097152 / 512 + 1 = s.n0 := by omega
  generalize u.v / 2097152 = k at *
  have hAk : s.A (k / 512) = true := by have := h.lA (by omega); rwa [← hkn, Nat.add_sub_cancel] at this
  have ha1 : s.a1 = T1 s.A s.B (k / 512) := by rw [h.a1 (by omega), ← hkn, Nat.add_sub_cancel]
  have hnB : s.B k = false := h.noB (by omega)
  refine { n0 := h.n0, n1 := h.n1, hA := h.hA, hB := h.hB, lA := h.lA, lB := h.lB, BA := h.BA, L1A := ?_, L2B := h.L2B, nx := h.nx, a1 := h.a1, a2 := h.a2, c0 := ?_, c1 := ?_, c2 := ?_, c3 := ?_ }
  · intro b hb
    simp only [putM] at hb
    split at hb
    · rename_i e; rw [e]; exact hAk
    · exact h.L1A b hb
  · intro i hi
    simp only
    have h2 : 1 ≤ s.a1 := by rw [ha1]; unfold T1; omega
    rw [putM_ne _ (by omega)]
    exact h.c0 i hi
  · intro a ha i hi
    simp only at ha ⊢
    rw [ha1]
    by_cases e : a * 512 + i = k
    · have ea : a = k / 512 := by omega
      have ei : i = k % 512 := by omega
      rw [e, hnB, putM_at, ← ea, ← ei, putM_at]
      rfl
    · rw [putM_ne _ ?_, putM_ne _ e, h.c1 a ha i hi]
      intro e2
      by_cases ea : a = k / 512
      · subst ea; omega
      · have := h.t11 ha hAk ea; omega
  · intro b hb i hi
    simp only at hb ⊢
    have h2 := h.t12 hAk hb
    rw [ha1, putM_ne _ (by omega)]
    exact h.c2 b hb i hi
  · intro x hx
    simp only at hx ⊢
    have h1 := h.t1_lt hAk
    rw [ha1, putM_ne _ (by omega)]
    exact h.c3 x hx
theorem Cl.leaf2 {base : Nat} {s : Bst} (h : Cl base s) {u : Un} (hb : ¬ u.big = true) (hv : u.v / 2097152 + 1 = s.n1) : Cl base (leafS s u) := by
  unfold leafS
  rw [if_neg hb]
  have hkn : u.v / 4096 / 512 + 1 = s.n1 := by omega
  generalize u.v / 4096 = k at *
  have hBk : s.B (k / 512) = true := by have := h.lB (by omega); rwa [← hkn, Nat.add_sub_cancel] at this
  have ha2 : s.a2 = T2 s.A s.B (k / 512) := by rw [h.a2 (by omega), ← hkn, Nat.add_sub_cancel]
  refine { n0 := h.n0, n1 := h.n1, hA := h.hA, hB := h.hB, lA := h.lA, lB := h.lB, BA := h.BA, L1A := h.L1A, L2B := ?_, nx := h.nx, a1 := h.a1, a2 := h.a2, c0 := ?_, c1 := ?_, c2 := ?_, c3 := ?_ }
  · intro b hb
    simp only [putM] at hb
    split at hb
    · rename_i e; rw [e]; exact hBk
    · exact h.L2B b hb
  · intro i hi
    simp only
    have h2 : 1 ≤ s.a2 := by rw [ha2]; unfold T2; omega
    rw [putM_ne _ (by omega)]
    exact h.c0 i hi
  · intro a ha i hi
    simp only at ha ⊢
    have h2 := h.t12 ha hBk
    rw [ha2, putM_ne _ (by omega)]
    exact h.c1 a ha i hi
  · intro b hb i hi
    simp only at hb ⊢
    rw [ha2]
    by_cases e : b * 512 + i = k
    · have ea : b = k / 512 := by omega
      have ei : i = k % 512 := by omega
      rw [e, putM_at, ← ea, ← ei, putM_at]
    · rw [putM_ne _ ?_, putM_ne _ e, h.c2 b hb i hi]
      intro e2
      by_cases ea : b = k / 512
      · subst ea; omega
      · have := h.t22 hb hBk ea; omega
  · intro x hx
    simp only at hx ⊢
    have h1 := h.t2_lt hBk
    rw [ha2, putM_ne _ (by omega)]
    exact h.c3 x hx
end Go.Proofs.YtlplbbnicfeoaaaGreat
/- Pages: the builder's tables, row by row. Own work. -/
namespace Go.Proofs.YtlplbbnicfeoaaaGreat
open Go.RowKit Wk
set_option linter.unusedVariables false
set_option maxRecDepth 20000
/-- all that there is lies below t -/
structure Up (t : Nat) (s : Bst) : Prop where
  u0 : s.n0 ≠ 0 → (s.n0 - 1) * 1073741824 < t
  u1 : s.n1 ≠ 0 → (s.n1 - 1) * 2097152 < t
  l1 : ∀ b, s.L1 b ≠ 0 → (b + 1) * 2097152 ≤ t
  l2 : ∀ c, s.L2 c ≠ 0 → (c + 1) * 4096 ≤ t
theorem up0 : Up 0 bst0 := ⟨fun h => absurd rfl h, fun h => absurd rfl h, fun _ h => absurd rfl h, fun _ h => absurd rfl h⟩
theorem Up.mono {t t' : Nat} {s : Bst} (h : Up t s) (ht : t ≤ t') : Up t' s := ⟨fun e => Nat.lt_of_lt_of_le (h.u0 e) ht, fun e => Nat.lt_of_lt_of_le (h.u1 e) ht, fun b e => Nat.le_trans (h.l1 b e) ht, fun b e => Nat.le_trans (h.l2 b e) ht⟩
theorem step1_n0 {base t : Nat} {s : Bst} (h : Up t s) {v : Nat} (hv : t ≤ v) : (step1 base s v).n0 = v / 1073741824 + 1 := by
  unfold step1
  by_cases hk : v / 1073741824 < s.n0
  · rw [if_pos hk]
    have := h.u0 (by omega)
    omega
  · rw [if_neg hk]
theorem step1_rest {base : Nat} {s : Bst} {v : Nat} : (step1 base s v).n1 = s.n1 ∧ (step1 base s v).a2 = s.a2 ∧ (step1 base s v).L1 = s.L1 ∧ (step1 base s v).L2 = s.L2 ∧ (step1 base s v).B = s.B ∧ (step1 base s v).nx = s.nx + (if v / 1073741824 < s.n0 then 0 else 1) := by
  unfold step1
  split <;> simp
theorem step2_rest {base : Nat} {s : Bst} {v : Nat} : (step2 base s v).n0 = s.n0 ∧ (step2 base s v).a1 = s.a1 ∧ (step2 base s v).L1 = s.L1 ∧ (step2 base s v).L2 = s.L2 ∧ (step2 base s v).A = s.A ∧ (step2 base s v).nx = s.nx + (if v / 2097152 < s.n1 then 0 else 1) := by
  unfold step2
  split <;> simp
theorem step2_n1 {base t : Nat} {s : Bst} (h : s.n1 ≠ 0 → (s.n1 - 1) * 2097152 < t) {v : Nat} (hv : t ≤ v) : (step2 base s v).n1 = v / 2097152 + 1 := by
  unfold step2
  by_cases hk : v / 2097152 < s.n1
  · rw [if_pos hk]
    have := h (by omega)
    omega
  · rw [if_neg hk]
theorem Up.L1z {t : Nat} {s : Bst} (h : Up t s) {v : Nat} (hv : t ≤ v) : s.L1 (v / 2097152) = 0 := by
  by_cases e : s.L1 (v / 2097152) = 0
  · exact e
  · have := h.l1 _ e
    omega
theorem Up.n1_le {t : Nat} {s : Bst} (h : Up t s) {v : Nat} (hv : t ≤ v) : s.n1 ≤ v / 2097152 + 1 := by
  by_cases e : s.n1 = 0
  · omega
  · have := h.u1 e
    omega
theorem leafS_rest {s : Bst} {u : Un} : (leafS s u).n0 = s.n0 ∧ (leafS s u).n1 = s.n1 ∧ (leafS s u).a1 = s.a1 ∧ (leafS s u).a2 = s.a2 ∧ (leafS s u).nx = s.nx := by
  unfold leafS
  split <;> simp
/-- one leaf more -/
theorem stepU_good {base t : Nat} {s : Bst} (h : Cl base s) (hu : Up t s) {u : Un} (ht : t ≤ u.v) (ha : u.v % u.len = 0) (he : u.v + u.len ≤ 549755813888) : Cl base (stepU base s u) ∧ Up (u.v + u.len) (stepU base s u) := by
  have hv : u.v < 549755813888 := by have : 0 < u.len := by unfold Un.len; split <;> omega
                                     omega
  have c1 := h.step1 hv
  have n0 := step1_n0 (base := base) hu ht
  obtain ⟨r1, r2, r3, r4, r5, _⟩ := step1_rest (base := base) (s := s) (v := u.v)
  unfold stepU downS
  by_cases hb : u.big = true
  · rw [if_pos hb]
    have hl : u.len = 2097152 := by unfold Un.len; rw [if_pos hb]
    rw [hl] at ha he ⊢
    have hn1 : s.n1 ≤ u.v / 2097152 := by
      by_cases e : s.n1 = 0
      · omega
      · have := hu.u1 e
        omega
    refine ⟨c1.leaf1 hb n0.symm (by rw [r1]; exact hn1), ?_⟩
    obtain ⟨e1, e2, _⟩ := leafS_rest (s := step1 base s u.v) (u := u)
    refine ⟨fun _ => ?_, fun hn => ?_, fun b hz => ?_, fun c hz => ?_⟩
    · rw [e1, n0]; omega
    · rw [e2, r1] at hn ⊢
      have := hu.u1 hn
      omega
    · unfold leafS at hz
      rw [if_pos hb] at hz
      simp only [putM] at hz
      split at hz
      · omega
      · rw [r3] at hz
        have := hu.l1 b hz
        omega
    · unfold leafS at hz
      rw [if_pos hb] at hz
      simp only at hz
      rw [r4] at hz
      have := hu.l2 c hz
      omega
  · rw [if_neg hb]
    have hl : u.len = 4096 := by unfold Un.len; rw [if_neg hb]
    rw [hl] at ha he ⊢
    have c2 := c1.step2 n0.symm (by rw [r3]; exact hu.L1z ht)
    have n1 := step2_n1 (base := base) (s := step1 base s u.v) (t := t) (by rw [r1]; exact hu.u1) ht
    obtain ⟨q1, q2, q3, q4, q5, _⟩ := step2_rest (base := base) (s := step1 base s u.v) (v := u.v)
    refine ⟨c2.leaf2 hb n1.symm, ?_⟩
    obtain ⟨e1, e2, _⟩ := leafS_rest (s := step2 base (step1 base s u.v) u.v) (u := u)
    refine ⟨fun _ => ?_, fun hn => ?_, fun b hz => ?_, fun c hz => ?_⟩
    · rw [e1, q1, n0]; omega
    · rw [e2, n1]; omega
    · unfold leafS at hz
      rw [if_neg hb] at hz
      simp only at hz
      rw [q3, r3] at hz
      have := hu.l1 b hz
      omega
    · unfold leafS at hz
      rw [if_neg hb] at hz
      simp only [putM] at hz
      split at hz
      · omega
      · rw [q4, r4] at hz
        have := hu.l2 c hz
        omega
theorem unitsN_succ (x : L6) (i : Nat) : unitsN x (i + 1) = unitsN x i ++ [unitAt x i] := by simp [unitsN, List.range_succ]
theorem buildU_app (base : Nat) (s : Bst) (us vs : List Un) : buildU base s (us ++ vs) = buildU base (buildU base s us) vs := by simp [buildU, List.foldl_append]
theorem buildU_succ (base : Nat) (s : Bst) (x : L6) (i : Nat) : buildU base s (unitsN x (i + 1)) = stepU base (buildU base s (unitsN x i)) (unitAt x i) := by rw [unitsN_succ, buildU_app]; rfl
theorem unitF_cases (x : L6) : (x.big = true ∧ unitF x = 2097152) ∨ (x.big = false ∧ unitF x = 4096) := by
  unfold unitF
  cases x.big <;> simp
theorem unitAt_len (x : L6) (i : Nat) : (unitAt x i).len = unitF x := rfl
theorem cntU_mul {x : L6} (h : aloneF x = 0) : cntU x * unitF x = x.n.toNat * 4096 ∧ 1 ≤ cntU x := by
  obtain ⟨h1, _, _, _, _, h6⟩ := aloneF_zero h
  unfold cntU
  rcases unitF_cases x with ⟨hb, hu⟩ | ⟨hb, hu⟩
  · have := h6 hb
    rw [hu]
    omega
  · rw [hu]
    omega
/-- the first leaves of a row -/
theorem row_good {base t : Nat} {s : Bst} {x : L6} (hx : aloneF x = 0) (ht : t ≤ x.v) (h : Cl base s) (hu : Up t s) : ∀ i, i ≤ cntU x → Cl base (buildU base s (unitsN x i)) ∧ Up (x.v + i * unitF x) (buildU base s (unitsN x i))
  | 0, _ => by
    rw [Nat.zero_mul]
    exact ⟨h, hu.mono ht⟩
  | i + 1, hi => by
    obtain ⟨c, u⟩ := row_good hx ht h hu i (by omega)
    obtain ⟨h1, h2, h3, h4, h5, h6⟩ := aloneF_zero hx
    have hm := (cntU_mul hx).1
    have hle : (i + 1) * unitF x ≤ cntU x * unitF x := Nat.mul_le_mul_right _ hi
    rw [buildU_succ]
    have hs := stepU_good c u (u := unitAt x i) (Nat.le_refl _) ?_ ?_
    · have e : (unitAt x i).v + (unitAt x i).len = x.v + (i + 1) * unitF x := by
        rw [unitAt_len]
        show x.v + i * unitF x + unitF x = _
        rw [Nat.add_mul]
        omega
      rw [e] at hs
      exact hs
    · rw [unitAt_len]
      show (x.v + i * unitF x) % unitF x = 0
      rw [Nat.add_mul_mod_self_right]
      exact h2
    · rw [unitAt_len]
      show x.v + i * unitF x + unitF x ≤ _
      rw [Nat.add_mul] at hle
      omega
def endF : Nat → List L6 → Nat
  | t, [] => t
  | _, x :: xs => endF (x.v + x.n.toNat * 4096) xs
theorem rows_good {base : Nat} : ∀ {xs : List L6} {t : Nat} {s : Bst}, refuF t xs = 0 → Cl base s → Up t s → Cl base (buildU base s (units xs)) ∧ Up (endF t xs) (buildU base s (units xs))
  | [], t, s, _, h, hu => ⟨h, hu⟩
  | x :: xs, t, s, hr, h, hu => by
    obtain ⟨h1, h2, h3⟩ := refuF_zero hr
    obtain ⟨c, u⟩ := row_good h1 h2 h hu (cntU x) (Nat.le_refl _)
    rw [(cntU_mul h1).1] at u
    have e : buildU base s (units (x :: xs)) = buildU base (buildU base s (unitsN x (cntU x))) (units xs) := by
      rw [← buildU_app]; rfl
    rw [e]
    exact rows_good h3 c u
theorem mx (a b : Nat) : ∃ m, max a b = m ∧ ((a ≤ b ∧ m = b) ∨ (b ≤ a ∧ m = a)) := by
  rcases Nat.le_total a b with h | h
  · exact ⟨b, Nat.max_eq_right h, Or.inl ⟨h, rfl⟩⟩
  · exact ⟨a, Nat.max_eq_left h, Or.inr ⟨h, rfl⟩⟩
theorem downS_cnt (base : Nat) (q : Bst) (u : Un) : (downS base q u).n0 = (if u.v / 1073741824 < q.n0 then q.n0 else u.v / 1073741824 + 1) ∧ (downS base q u).n1 = (if u.big = true then q.n1 else if u.v / 2097152 < q.n1 then q.n1 else u.v / 2097152 + 1) ∧ (downS base q u).nx = q.nx + (if u.v / 1073741824 < q.n0 then 0 else 1) + (if u.big = true then 0 else if u.v / 2097152 < q.n1 then 0 else 1) := by
  obtain ⟨r1, _, _, _, _, r6⟩ := step1_rest (base := base) (s := q) (v := u.v)
  obtain ⟨s1, _, _, _, _, s6⟩ := step2_rest (base := base) (s := step1 base q u.v) (v := u.v)
  have e0 : (step1 base q u.v).n0 = (if u.v / 1073741824 < q.n0 then q.n0 else u.v / 1073741824 + 1) := by unfold step1; split <;> rfl
  have e1 : (step2 base (step1 base q u.v) u.v).n1 = (if u.v / 2097152 < q.n1 then q.n1 else u.v / 2097152 + 1) := by
    rw [← r1]
    generalize step1 base q u.v = z
    unfold step2
    split <;> rfl
  unfold downS
  by_cases hb : u.big = true
  · rw [if_pos hb, if_pos hb, if_pos hb]
    exact ⟨e0, r1, r6⟩
  · rw [if_neg hb, if_neg hb, if_neg hb]
    refine ⟨s1.trans e0, e1, ?_⟩
    rw [s6, r6, r1]
theorem up30 {E l n m : Nat} (hl : l = 4096 ∨ l = 2097152) (hE : E % l = 0) (h1 : 1 ≤ E) (hn : n = (E - 1) / 1073741824 + 1) (hm : m ≤ n) : (if E / 1073741824 < n then n else E / 1073741824 + 1) = (E + l - 1) / 1073741824 + 1 ∧ n - m + (if E / 1073741824 < n then 0 else 1) = (E + l - 1) / 1073741824 + 1 - m := by
  rcases hl with rfl | rfl <;> split <;> omega
theorem up21 {E n m : Nat} (hE : E % 4096 = 0) (h1 : 1 ≤ E) (hn : n = (E - 1) / 2097152 + 1) (hm : m ≤ n) : (if E / 2097152 < n then n else E / 2097152 + 1) = (E + 4096 - 1) / 2097152 + 1 ∧ n - m + (if E / 2097152 < n then 0 else 1) = (E + 4096 - 1) / 2097152 + 1 - m := by
  split <;> omega
theorem fs30 {v l n t m : Nat} (hl : l = 4096 ∨ l = 2097152) (hv : v % l = 0) (hn : n = 0 ∨ (n - 1) * 1073741824 < t) (ht : t ≤ v) (hm : (v / 1073741824 ≤ n ∧ m = n) ∨ (n ≤ v / 1073741824 ∧ m = v / 1073741824)) : (if v / 1073741824 < n then n else v / 1073741824 + 1) = (v + l - 1) / 1073741824 + 1 ∧ (if v / 1073741824 < n then 0 else 1) = (v + l - 1) / 1073741824 + 1 - m ∧ m ≤ (v + l - 1) / 1073741824 + 1 := by
  rcases hl with rfl | rfl <;> split <;> omega
theorem fs21 {v n t m : Nat} (hv : v % 4096 = 0) (hn : n = 0 ∨ (n - 1) * 2097152 < t) (ht : t ≤ v) (hm : (v / 2097152 ≤ n ∧ m = n) ∨ (n ≤ v / 2097152 ∧ m = v / 2097152)) : (if v / 2097152 < n then n else v / 2097152 + 1) = (v + 4096 - 1) / 2097152 + 1 ∧ (if v / 2097152 < n then 0 else 1) = (v + 4096 - 1) / 2097152 + 1 - m ∧ m ≤ (v + 4096 - 1) / 2097152 + 1 := by
  split <;> omega
theorem le30 {v a b m : Nat} (h : m ≤ (v + a - 1) / 1073741824 + 1) (hab : a ≤ b) : m ≤ (v + b - 1) / 1073741824 + 1 := by omega
/-- how many tables a row begins -/
theorem row_count {base t : Nat} {s : Bst} {x : L6} (hx : aloneF x = 0) (ht : t ≤ x.v) (hu : Up t s) {m0 m1 : Nat} (hm0 : (x.v / 1073741824 ≤ s.n0 ∧ m0 = s.n0) ∨ (s.n0 ≤ x.v / 1073741824 ∧ m0 = x.v / 1073741824)) (hm1 : (x.v / 2097152 ≤ s.n1 ∧ m1 = s.n1) ∨ (s.n1 ≤ x.v / 2097152 ∧ m1 = x.v / 2097152)) : ∀ i, i < cntU x →
    ((buildU base s (unitsN x (i + 1))).n0 = (x.v + (i + 1) * unitF x - 1) / 1073741824 + 1 ∧ m0 ≤ (buildU base s (unitsN x (i + 1))).n0) ∧
    (buildU base s (unitsN x (i + 1))).n1 = (if x.big = true then s.n1 else (x.v + (i + 1) * unitF x - 1) / 2097152 + 1) ∧ (x.big = false → m1 ≤ (buildU base s (unitsN x (i + 1))).n1) ∧
    (buildU base s (unitsN x (i + 1))).nx = s.nx + ((x.v + (i + 1) * unitF x - 1) / 1073741824 + 1 - m0) + (if x.big = true then 0 else (x.v + (i + 1) * unitF x - 1) / 2097152 + 1 - m1)
  | 0, _ => by
    obtain ⟨h1, h2, h3, h4, h5, h6⟩ := aloneF_zero hx
    rw [buildU_succ]
    obtain ⟨e1, e2, _, _, e5⟩ := leafS_rest (s := downS base (buildU base s (unitsN x 0)) (unitAt x 0)) (u := unitAt x 0)
    obtain ⟨d0, d1, d2⟩ := downS_cnt base (buildU base s (unitsN x 0)) (unitAt x 0)
    have hn0 : s.n0 = 0 ∨ (s.n0 - 1) * 1073741824 < t := by
      by_cases e : s.n0 = 0
      · exact Or.inl e
      · exact Or.inr (hu.u0 e)
    have hn1 : s.n1 = 0 ∨ (s.n1 - 1) * 2097152 < t := by
      by_cases e : s.n1 = 0
      · exact Or.inl e
      · exact Or.inr (hu.u1 e)
    have es : buildU base s (unitsN x 0) = s := rfl
    have hv : (unitAt x 0).v = x.v := by show x.v + 0 * _ = _; rw [Nat.zero_mul, Nat.add_zero]
    have hb' : (unitAt x 0).big = x.big := rfl
    unfold stepU
    rw [e1, e2, e5, d0, d1, d2, es, hv, hb', Nat.zero_add, Nat.one_mul]
    obtain ⟨f1, f2, f3⟩ := fs30 (l := unitF x) (by rcases unitF_cases x with ⟨_, e⟩ | ⟨_, e⟩ <;> omega) h2 hn0 ht hm0
    rcases unitF_cases x with ⟨hb, hl⟩ | ⟨hb, hl⟩
    · rw [hb, if_pos rfl, if_pos rfl, if_pos rfl, if_pos rfl, f1, f2]
      exact ⟨⟨rfl, f3⟩, rfl, (fun e => by cases e), rfl⟩
    · obtain ⟨g1, g2, g3⟩ := fs21 (v := x.v) (by rw [hl] at h2; exact h2) hn1 ht hm1
      simp only [hb, Bool.false_eq_true, if_false]
      rw [f1, f2, g1, g2, hl]
      rw [hl] at f3
      exact ⟨⟨rfl, f3⟩, rfl, fun _ => g3, rfl⟩
  | i + 1, hi => by
    obtain ⟨h1, h2, h3, h4, h5, h6⟩ := aloneF_zero hx
    obtain ⟨⟨p0, p0'⟩, p1, p1', p2⟩ := row_count (base := base) hx ht hu hm0 hm1 i (by omega)
    rw [buildU_succ]
    generalize buildU base s (unitsN x (i + 1)) = q at *
    obtain ⟨e1, e2, _, _, e5⟩ := leafS_rest (s := downS base q (unitAt x (i + 1))) (u := unitAt x (i + 1))
    obtain ⟨d0, d1, d2⟩ := downS_cnt base q (unitAt x (i + 1))
    have hv : (unitAt x (i + 1)).v = x.v + (i + 1) * unitF x := rfl
    have hb' : (unitAt x (i + 1)).big = x.big := rfl
    have hE : x.v + (i + 1 + 1) * unitF x = x.v + (i + 1) * unitF x + unitF x := by rw [Nat.add_mul (i + 1) 1, Nat.one_mul]; omega
    have hm : (x.v + (i + 1) * unitF x) % unitF x = 0 := by rw [Nat.add_mul_mod_self_right]; exact h2
    have hu1 : 1 ≤ (i + 1) * unitF x := Nat.mul_pos (by omega) (by rcases unitF_cases x with ⟨_, e⟩ | ⟨_, e⟩ <;> omega)
    unfold stepU
    rw [e1, e2, e5, d0, d1, d2, hv, hb', hE]
    clear e1 e2 e5 d0 d1 d2 hv hb' hE
    generalize hEE : x.v + (i + 1) * unitF x = E at *
    obtain ⟨f1, f2⟩ := up30 (E := E) (l := unitF x) (by rcases unitF_cases x with ⟨_, e⟩ | ⟨_, e⟩ <;> omega) hm (by omega) p0 p0'
    have f3 : m0 ≤ (E + unitF x - 1) / 1073741824 + 1 := by rw [← f1]; split <;> omega
    rcases unitF_cases x with ⟨hb, hl⟩ | ⟨hb, hl⟩
    · rw [hb, if_pos rfl] at p1 p2
      rw [hb, if_pos rfl, if_pos rfl, if_pos rfl, if_pos rfl, f1]
      refine ⟨⟨rfl, f3⟩, p1, (fun e => by cases e), ?_⟩
      rw [p2, ← f2, p0]
      omega
    · simp only [hb, Bool.false_eq_true, if_false] at p1 p2
      obtain ⟨g1, g2⟩ := up21 (E := E) (by rw [hl] at hm; exact hm) (by omega) p1 (p1' hb)
      have g3 : m1 ≤ (E + 4096 - 1) / 2097152 + 1 := by rw [← g1]; have := p1' hb; split <;> omega
      simp only [hb, Bool.false_eq_true, if_false]
      rw [f1, g1, hl]
      rw [hl] at f2 f3
      refine ⟨⟨rfl, f3⟩, rfl, fun _ => g3, ?_⟩
      rw [p2, ← f2, ← g2, ← p0, ← p1]
      omega
theorem rows_count {base : Nat} : ∀ {xs : List L6} {t : Nat} {s : Bst}, refuF t xs = 0 → Cl base s → Up t s → (buildU base s (units xs)).nx = tabsF s.nx s.n0 s.n1 xs
  | [], t, s, _, h, hu => rfl
  | x :: xs, t, s, hr, h, hu => by
    obtain ⟨h1, h2, h3⟩ := refuF_zero hr
    obtain ⟨c, u⟩ := row_good h1 h2 h hu (cntU x) (Nat.le_refl _)
    obtain ⟨hm, hc⟩ := cntU_mul h1
    obtain ⟨M0, hM0, hM0'⟩ := mx (x.v / 1073741824) s.n0
    obtain ⟨M1, hM1, hM1'⟩ := mx (x.v / 2097152) s.n1
    obtain ⟨⟨m0, _⟩, m1, _, m2⟩ := row_count (base := base) h1 h2 hu hM0' hM1' (cntU x - 1) (by omega)
    rw [show cntU x - 1 + 1 = cntU x by omega] at m0 m1 m2
    rw [hm] at u m0 m1 m2
    have e : buildU base s (units (x :: xs)) = buildU base (buildU base s (unitsN x (cntU x))) (units xs) := by
      rw [← buildU_app]; rfl
    rw [e, rows_count h3 c u, m0, m1, m2]
    have ht : tabsF s.nx s.n0 s.n1 (x :: xs) = if x.big = true then tabsF (s.nx + ((x.v + x.n.toNat * 4096 - 1) / 1073741824 + 1 - max (x.v / 1073741824) s.n0)) ((x.v + x.n.toNat * 4096 - 1) / 1073741824 + 1) s.n1 xs else tabsF (s.nx + ((x.v + x.n.toNat * 4096 - 1) / 1073741824 + 1 - max (x.v / 1073741824) s.n0) + ((x.v + x.n.toNat * 4096 - 1) / 2097152 + 1 - max (x.v / 2097152) s.n1)) ((x.v + x.n.toNat * 4096 - 1) / 1073741824 + 1) ((x.v + x.n.toNat * 4096 - 1) / 2097152 + 1) xs := rfl
    rw [ht, hM0, hM1]
    by_cases hb : x.big = true
    · rw [if_pos hb, if_pos hb, if_pos hb, Nat.add_zero]
    · rw [if_neg hb, if_neg hb, if_neg hb]
theorem stepU_nx (base : Nat) (s : Bst) (u : Un) : s.nx ≤ (stepU base s u).nx := by
  obtain ⟨_, _, _, _, e5⟩ := leafS_rest (s := downS base s u) (u := u)
  unfold stepU
  rw [e5]
  unfold downS step2 step1
  split <;> repeat (first | split | simp only | omega)
theorem buildU_nx (base : Nat) : ∀ (us : List Un) (s : Bst), s.nx ≤ (buildU base s us).nx
  | [], s => Nat.le_refl _
  | u :: us, s => Nat.le_trans (stepU_nx base s u) (buildU_nx base us (stepU base s u))
end Go.Proofs.YtlplbbnicfeoaaaGreat
