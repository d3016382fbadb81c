import Derived.Test.YtlplbbnicfeoaaaGreatPq08
/- Pages: rows joined, and each leaf by itself. Own work. -/
namespace Go.Proofs.YtlplbbnicfeoaaaGreat
open Go.RowKit Wk
set_option linter.unusedVariables false
set_option maxRecDepth 20000
theorem aloneF_of {x : L6} (h1 : 1 ≤ x.n) (h2 : x.v % unitF x = 0) (h3 : x.p % unitF x = 0) (h4 : x.v + x.n.toNat * 4096 ≤ 549755813888) (h5 : x.p + x.n.toNat * 4096 ≤ 4294967296) (h6 : x.big = true → x.n % 512 = 0) : aloneF x = 0 := by
  unfold aloneF winB
  rw [if_neg (by rintro (e | ⟨e, f⟩); · omega
                 · exact f (h6 e)), if_neg (by omega), if_neg (by simp; omega), if_neg (by simp; omega)]
theorem goesF_iff {y x : L6} : goesF y x = true ↔ x.v = y.v + y.n.toNat * 4096 ∧ x.p = y.p + y.n.toNat * 4096 ∧ x.big = y.big ∧ x.wr = y.wr ∧ x.ex = y.ex := by
  unfold goesF
  exact decide_eq_true_iff
theorem alone_join {y x : L6} (hy : aloneF y = 0) (hx : aloneF x = 0) (hg : goesF y x = true) : aloneF (joinL y x) = 0 ∧ (joinL y x).n.toNat = y.n.toNat + x.n.toNat := by
  obtain ⟨y1, y2, y3, y4, y5, y6⟩ := aloneF_zero hy
  obtain ⟨x1, x2, x3, x4, x5, x6⟩ := aloneF_zero hx
  obtain ⟨g1, g2, g3, _, _⟩ := goesF_iff.1 hg
  have hn : (joinL y x).n = y.n + x.n := rfl
  have ht : (joinL y x).n.toNat = y.n.toNat + x.n.toNat := by rw [hn]; omega
  refine ⟨aloneF_of (by rw [hn]; omega) y2 y3 ?_ ?_ ?_, ht⟩
  · rw [ht]
    show y.v + _ ≤ _
    omega
  · rw [ht]
    show y.p + _ ≤ _
    omega
  · intro hb
    have h1 := y6 hb
    have h2 := x6 (g3.trans hb)
    rw [hn]
    omega
theorem unitsN_add (x : L6) (a : Nat) : ∀ b, unitsN x (a + b) = unitsN x a ++ (List.range b).map (fun i => unitAt x (a + i))
  | 0 => by simp
  | b + 1 => by rw [← Nat.add_assoc, unitsN_succ, unitsN_add x a b, List.range_succ, List.map_append, List.append_assoc]; rfl
theorem units_join {y x : L6} (hy : aloneF y = 0) (hx : aloneF x = 0) (hg : goesF y x = true) : unitsL (joinL y x) = unitsL y ++ unitsL x := by
  obtain ⟨hj, hn⟩ := alone_join hy hx hg
  obtain ⟨g1, g2, g3, g4, g5⟩ := goesF_iff.1 hg
  have hu : unitF (joinL y x) = unitF y := rfl
  have hux : unitF x = unitF y := by unfold unitF; rw [g3]
  have c1 := (cntU_mul hj).1
  have c2 := (cntU_mul hy).1
  have c3 := (cntU_mul hx).1
  have hp : 0 < unitF y := by rcases unitF_cases y with ⟨_, e⟩ | ⟨_, e⟩ <;> omega
  have hc : cntU (joinL y x) = cntU y + cntU x := by
    apply Nat.eq_of_mul_eq_mul_right hp
    rw [Nat.add_mul, c2, ← hu, c1, hu, ← hux, c3, hn, Nat.add_mul]
  unfold unitsL
  rw [hc, unitsN_add]
  congr 1
  · unfold unitsN
    apply List.map_congr_left
    intro i hi
    have e2 : x.v = y.v + cntU y * unitF y := by rw [c2]; exact g1
    have e3 : x.p = y.p + cntU y * unitF y := by rw [c2]; exact g2
    unfold unitAt
    rw [hu, hux, e2, e3, g3, g4, g5, Nat.add_mul, Nat.add_assoc, Nat.add_assoc]
    rfl
theorem refuF_app : ∀ {xs ys : List L6} {t : Nat}, refuF t (xs ++ ys) = 0 ↔ refuF t xs = 0 ∧ refuF (endF t xs) ys = 0
  | [], ys, t => by simp [refuF, endF]
  | x :: xs, ys, t => by
    constructor
    · intro h
      obtain ⟨h1, h2, h3⟩ := refuF_zero (show refuF t (x :: (xs ++ ys)) = 0 from h)
      obtain ⟨a, b⟩ := refuF_app.1 h3
      refine ⟨?_, b⟩
      show refuF t (x :: xs) = 0
      unfold refuF
      rw [if_neg (by omega), if_neg (by omega)]
      exact a
    · rintro ⟨h, hb⟩
      obtain ⟨h1, h2, h3⟩ := refuF_zero h
      show refuF t (x :: (xs ++ ys)) = 0
      unfold refuF
      rw [if_neg (by omega), if_neg (by omega)]
      exact refuF_app.2 ⟨h3, hb⟩
theorem refuF_one {t : Nat} {x : L6} : refuF t [x] = 0 ↔ aloneF x = 0 ∧ t ≤ x.v := by
  constructor
  · intro h
    obtain ⟨h1, h2, _⟩ := refuF_zero h
    exact ⟨h1, h2⟩
  · rintro ⟨h1, h2⟩
    unfold refuF
    rw [if_neg (by omega), if_neg (by omega)]
    rfl
theorem endF_app : ∀ (xs ys : List L6) (t : Nat), endF t (xs ++ ys) = endF (endF t xs) ys
  | [], _, _ => rfl
  | x :: xs, ys, t => endF_app xs ys _
theorem units_app (xs ys : List L6) : units (xs ++ ys) = units xs ++ units ys := by simp [units]
theorem units_one (x : L6) : units [x] = unitsL x := by simp [units]
/-- what Runs makes of rows that may be -/
theorem runs_good : ∀ {xs bs : List L6} {y : L6}, refuF 0 (bs ++ [y]) = 0 → refuF (endF 0 (bs ++ [y])) xs = 0 → refuF 0 (runsF (bs ++ [y]) xs) = 0 ∧ units (runsF (bs ++ [y]) xs) = units (bs ++ [y]) ++ units xs ∧ (runsF (bs ++ [y]) xs).length ≤ (bs ++ [y]).length + xs.length
  | [], bs, y, h, _ => by
    refine ⟨h, ?_, Nat.le_refl _⟩
    show units (bs ++ [y]) = units (bs ++ [y]) ++ []
    simp
  | x :: xs, bs, y, h, hx => by
    obtain ⟨h1, h2, h3⟩ := refuF_zero hx
    obtain ⟨b1, b2⟩ := refuF_app.1 h
    obtain ⟨y1, y2⟩ := refuF_one.1 b2
    have eE : endF 0 (bs ++ [y]) = y.v + y.n.toNat * 4096 := by rw [endF_app]; rfl
    rw [runsF_some]
    by_cases hg : goesF y x = true
    · rw [if_pos hg]
      obtain ⟨j1, j2⟩ := alone_join y1 h1 hg
      obtain ⟨g1, _⟩ := goesF_iff.1 hg
      have r1 : refuF 0 (bs ++ [joinL y x]) = 0 := refuF_app.2 ⟨b1, refuF_one.2 ⟨j1, y2⟩⟩
      have eJ : endF 0 (bs ++ [joinL y x]) = x.v + x.n.toNat * 4096 := by
        rw [endF_app]
        show y.v + (joinL y x).n.toNat * 4096 = _
        rw [j2, g1, Nat.add_mul]
        omega
      obtain ⟨a, b, c⟩ := runs_good (xs := xs) (bs := bs) (y := joinL y x) r1 (by rw [eJ]; exact h3)
      refine ⟨a, ?_, ?_⟩
      · rw [b, units_app, units_app, units_one, units_one, units_join y1 h1 hg]
        simp [units]
      · simp only [List.length_append, List.length_cons, List.length_nil] at c ⊢
        omega
    · rw [if_neg hg]
      have r1 : refuF 0 (bs ++ [y] ++ [x]) = 0 := refuF_app.2 ⟨h, refuF_one.2 ⟨h1, h2⟩⟩
      obtain ⟨a, b, c⟩ := runs_good (xs := xs) (bs := bs ++ [y]) (y := x) r1 (by rw [endF_app]; exact h3)
      refine ⟨a, ?_, ?_⟩
      · rw [b, units_app]
        simp [units]
      · simp only [List.length_append, List.length_cons, List.length_nil] at c ⊢
        omega
theorem runs_ok {xs : List L6} (h : refuF 0 xs = 0) : refuF 0 (runsF [] xs) = 0 ∧ units (runsF [] xs) = units xs ∧ (runsF [] xs).length ≤ xs.length := by
  cases xs with
  | nil => exact ⟨rfl, rfl, Nat.le_refl _⟩
  | cons x xs =>
    obtain ⟨h1, h2, h3⟩ := refuF_zero h
    rw [runsF_none]
    obtain ⟨a, b, c⟩ := runs_good (xs := xs) (bs := []) (y := x) (refuF_one.2 ⟨h1, h2⟩) h3
    refine ⟨a, b.trans ?_, ?_⟩
    · simp [units]
    · simp only [List.nil_append, List.length_cons, List.length_nil] at c ⊢
      omega
/-- no row goes on where the one ahead of it ends -/
def Sep : List L6 → Prop
  | [] => True
  | [_] => True
  | y :: x :: xs => goesF y x = false ∧ Sep (x :: xs)
theorem Sep.snoc : ∀ {bs : List L6} {y x : L6}, Sep (bs ++ [y]) → goesF y x = false → Sep (bs ++ [y] ++ [x])
  | [], y, x, _, h => ⟨h, trivial⟩
  | [b], y, x, h, hg => ⟨h.1, hg, trivial⟩
  | b :: c :: bs, y, x, h, hg => ⟨h.1, Sep.snoc (bs := c :: bs) h.2 hg⟩
theorem Sep.last : ∀ {bs : List L6} {y z : L6}, Sep (bs ++ [y]) → z.v = y.v → z.p = y.p → z.big = y.big → z.wr = y.wr → z.ex = y.ex → Sep (bs ++ [z])
  | [], _, _, _, _, _, _, _, _ => trivial
  | [b], y, z, h, e1, e2, e3, e4, e5 => by
    refine ⟨?_, trivial⟩
    have h1 : goesF b y = false := h.1
    unfold goesF at h1 ⊢
    rw [e1, e2, e3, e4, e5]
    exact h1
  | b :: c :: bs, y, z, h, e1, e2, e3, e4, e5 => ⟨h.1, Sep.last (bs := c :: bs) h.2 e1 e2 e3 e4 e5⟩
theorem runs_sep : ∀ {xs bs : List L6} {y : L6}, Sep (bs ++ [y]) → Sep (runsF (bs ++ [y]) xs)
  | [], bs, y, h => h
  | x :: xs, bs, y, h => by
    rw [runsF_some]
    by_cases hg : goesF y x = true
    · rw [if_pos hg]
      exact runs_sep (h.last rfl rfl rfl rfl rfl)
    · rw [if_neg hg]
      exact runs_sep (h.snoc (by simpa using hg))
theorem sep_runs : ∀ {xs bs : List L6} {y : L6}, Sep (y :: xs) → runsF (bs ++ [y]) xs = bs ++ y :: xs
  | [], bs, y, _ => rfl
  | x :: xs, bs, y, h => by
    rw [runsF_some, if_neg (by rw [h.1]; simp), sep_runs (bs := bs ++ [y]) h.2]
    simp
theorem runs_twice (xs : List L6) : runsF [] (runsF [] xs) = runsF [] xs := by
  have hs : Sep (runsF [] xs) := by
    cases xs with
    | nil => trivial
    | cons x xs => rw [runsF_none]; exact runs_sep (bs := []) (y := x) trivial
  cases he : runsF [] xs with
  | nil => rfl
  | cons y ys =>
    rw [he] at hs
    rw [runsF_none]
    exact sep_runs (bs := []) hs
/-- a leaf as a row of its own -/
def rowU (u : Un) : L6 := ⟨u.v, u.p, (u.len / 4096 : Nat), u.big, u.wr, u.ex⟩
def eachF (xs : List L6) : List L6 := (units xs).map rowU
theorem rowU_ok {u : Un} (h1 : u.v % u.len = 0) (h2 : u.p % u.len = 0) (h3 : u.v + u.len ≤ 549755813888) (h4 : u.p + u.len ≤ 4294967296) : aloneF (rowU u) = 0 ∧ (rowU u).n.toNat * 4096 = u.len := by
  have e : (rowU u).n = ((u.len / 4096 : Nat) : Int) := rfl
  have hu : unitF (rowU u) = u.len := rfl
  have hl : u.len = 2097152 ∨ (u.big = false ∧ u.len = 4096) := by unfold Un.len; cases u.big <;> simp
  have hn : (rowU u).n.toNat * 4096 = u.len := by rw [e]; rcases hl with hl | ⟨_, hl⟩ <;> rw [hl] <;> rfl
  refine ⟨aloneF_of ?_ (by rw [hu]; exact h1) (by rw [hu]; exact h2) (by rw [hn]; exact h3) (by rw [hn]; exact h4) ?_, hn⟩
  · rw [e]; rcases hl with hl | ⟨_, hl⟩ <;> rw [hl] <;> decide
  · intro hb
    have hb' : u.big = true := hb
    rw [e]
    rcases hl with hl | ⟨hf, _⟩
    · rw [hl]; decide
    · rw [hb'] at hf; cases hf
theorem unitAt_ok {x : L6} (h : aloneF x = 0) {i : Nat} (hi : i < cntU x) : (unitAt x i).v % (unitAt x i).len = 0 ∧ (unitAt x i).p % (unitAt x i).len = 0 ∧ (unitAt x i).v + (unitAt x i).len ≤ x.v + x.n.toNat * 4096 ∧ (unitAt x i).p + (unitAt x i).len ≤ x.p + x.n.toNat * 4096 := by
  obtain ⟨h1, h2, h3, h4, h5, h6⟩ := aloneF_zero h
  have hm := (cntU_mul h).1
  have hle : (i + 1) * unitF x ≤ cntU x * unitF x := Nat.mul_le_mul_right _ hi
  rw [Nat.add_mul, Nat.one_mul] at hle
  refine ⟨?_, ?_, ?_, ?_⟩
  · show (x.v + i * unitF x) % unitF x = 0
    rw [Nat.add_mul_mod_self_right]; exact h2
  · show (x.p + i * unitF x) % unitF x = 0
    rw [Nat.add_mul_mod_self_right]; exact h3
  · show x.v + i * unitF x + unitF x ≤ _
    omega
  · show x.p + i * unitF x + unitF x ≤ _
    omega
theorem units_rowU {u : Un} (h1 : u.v % u.len = 0) (h2 : u.p % u.len = 0) (h3 : u.v + u.len ≤ 549755813888) (h4 : u.p + u.len ≤ 4294967296) : unitsL (rowU u) = [u] := by
  obtain ⟨ha, hn⟩ := rowU_ok h1 h2 h3 h4
  have hu : unitF (rowU u) = u.len := rfl
  have hp : 0 < u.len := by unfold Un.len; split <;> omega
  have hc : cntU (rowU u) = 1 := by
    unfold cntU
    rw [hn, hu, Nat.div_self hp]
  unfold unitsL
  rw [hc]
  show [unitAt (rowU u) 0] = [u]
  unfold unitAt
  rw [Nat.zero_mul]
  rfl
/-- the leaves of a row, from the i-th on -/
def eachN (x : L6) (i n : Nat) : List L6 := (List.range n).map fun k => rowU (unitAt x (i + k))
theorem eachN_succ (x : L6) (i n : Nat) : eachN x i (n + 1) = rowU (unitAt x i) :: eachN x (i + 1) n := by
  unfold eachN
  rw [List.range_succ_eq_map, List.map_cons, List.map_map]
  congr 1
  apply List.map_congr_left
  intro k _
  simp only [Function.comp]
  rw [show i + k.succ = i + 1 + k by omega]
theorem eachF_cons (x : L6) (xs : List L6) : eachF (x :: xs) = eachN x 0 (cntU x) ++ eachF xs := by
  unfold eachF units eachN
  rw [List.flatMap_cons, List.map_append]
  congr 1
  unfold unitsL unitsN
  rw [List.map_map]
  apply List.map_congr_left
  intro k _
  simp only [Function.comp, Nat.zero_add]
theorem each_refu : ∀ {n i t : Nat} {x : L6} {ys : List L6}, aloneF x = 0 → i + n = cntU x → t ≤ x.v + i * unitF x → refuF (x.v + x.n.toNat * 4096) ys = 0 → (n = 0 → refuF t ys = 0) → refuF t (eachN x i n ++ ys) = 0
  | 0, i, t, x, ys, _, _, _, _, h => h rfl
  | n + 1, i, t, x, ys, hx, hn, ht, hy, _ => by
    obtain ⟨a1, a2, a3, a4⟩ := unitAt_ok hx (i := i) (by omega)
    obtain ⟨x1, x2, x3, x4, x5, x6⟩ := aloneF_zero hx
    obtain ⟨r1, r2⟩ := rowU_ok a1 a2 (by omega) (by omega)
    rw [eachN_succ]
    show refuF t (rowU (unitAt x i) :: (eachN x (i + 1) n ++ ys)) = 0
    unfold refuF
    rw [if_neg (by omega), if_neg (show ¬ (rowU (unitAt x i)).v < t from Nat.not_lt.2 ht), r2]
    have e : (rowU (unitAt x i)).v + (unitAt x i).len = x.v + (i + 1) * unitF x := by
      show x.v + i * unitF x + unitF x = _
      rw [Nat.add_mul]
      omega
    rw [e]
    refine each_refu hx (by omega) (Nat.le_refl _) hy (fun h0 => ?_)
    subst h0
    rw [show i + 1 = cntU x by omega, (cntU_mul hx).1]
    exact hy
theorem each_ok : ∀ {xs : List L6} {t : Nat}, refuF t xs = 0 → refuF t (eachF xs) = 0 ∧ units (eachF xs) = units xs
  | [], t, _ => ⟨rfl, rfl⟩
  | x :: xs, t, h => by
    obtain ⟨h1, h2, h3⟩ := refuF_zero h
    obtain ⟨r, u⟩ := each_ok h3
    obtain ⟨x1, x2, x3, x4, x5, x6⟩ := aloneF_zero h1
    have hc := (cntU_mul h1).2
    constructor
    · rw [eachF_cons]
      exact each_refu h1 (by omega) (by rw [Nat.zero_mul]; exact h2) r (fun h0 => by omega)
    · rw [eachF_cons, units_app, u]
      show _ = (List.range (cntU x)).map (unitAt x) ++ units xs
      congr 1
      unfold units eachN
      rw [List.flatMap_map]
      have e : ∀ k ∈ List.range (cntU x), unitsL (rowU (unitAt x (0 + k))) = [unitAt x k] := fun k hk => by
        obtain ⟨a1, a2, a3, a4⟩ := unitAt_ok h1 (i := k) (List.mem_range.1 hk)
        rw [Nat.zero_add]
        exact units_rowU a1 a2 (by omega) (by omega)
      generalize List.range (cntU x) = l at e ⊢
      induction l with
      | nil => rfl
      | cons k l ih =>
        rw [List.flatMap_cons, List.map_cons]
        have e1 := e k (by simp)
        rw [e1, ih (fun j hj => e j (by simp [hj]))]
        rfl
/-- a row that is gone on with leaf by leaf -/
theorem runs_each : ∀ {n i : Nat} {x z : L6} {bs ys : List L6}, aloneF x = 0 → i + n = cntU x → 1 ≤ z.n → z.v + z.n.toNat * 4096 = x.v + i * unitF x → z.p + z.n.toNat * 4096 = x.p + i * unitF x → z.big = x.big → z.wr = x.wr → z.ex = x.ex → runsF (bs ++ [z]) (eachN x i n ++ ys) = runsF (bs ++ [⟨z.v, z.p, z.n + (n * unitF x / 4096 : Nat), z.big, z.wr, z.ex⟩]) ys
  | 0, i, x, z, bs, ys, _, _, _, _, _, _, _, _ => by
    rw [Nat.zero_mul]
    show runsF (bs ++ [z]) ys = _
    simp
  | n + 1, i, x, z, bs, ys, hx, hn, hz, h1, h2, h3, h4, h5 => by
    obtain ⟨a1, a2, a3, a4⟩ := unitAt_ok hx (i := i) (by omega)
    obtain ⟨x1, x2, x3, x4, x5, x6⟩ := aloneF_zero hx
    obtain ⟨r1, r2⟩ := rowU_ok a1 a2 (by omega) (by omega)
    have hu : (unitAt x i).len = unitF x := rfl
    rw [hu] at r2
    have hl : unitF x = 2097152 ∨ unitF x = 4096 := by rcases unitF_cases x with ⟨_, e⟩ | ⟨_, e⟩ <;> omega
    have en : (rowU (unitAt x i)).n = ((unitF x / 4096 : Nat) : Int) := rfl
    rw [eachN_succ]
    show runsF (bs ++ [z]) (rowU (unitAt x i) :: (eachN x (i + 1) n ++ ys)) = _
    rw [runsF_some, if_pos (show goesF z (rowU (unitAt x i)) = true from goesF_iff.2 ⟨h1.symm, h2.symm, h3.symm, h4.symm, h5.symm⟩)]
    have ej : (joinL z (rowU (unitAt x i))).n = z.n + ((unitF x / 4096 : Nat) : Int) := rfl
    have et : (joinL z (rowU (unitAt x i))).n.toNat * 4096 = z.n.toNat * 4096 + unitF x := by
      rw [ej]
      rcases hl with e | e <;> rw [e] <;> omega
    rw [runs_each (x := x) (z := joinL z (rowU (unitAt x i))) hx (by omega) (by rw [ej]; omega) (by rw [et, Nat.add_mul]; show z.v + _ = _; omega) (by rw [et, Nat.add_mul]; show z.p + _ = _; omega) h3 h4 h5]
    have ek : (joinL z (rowU (unitAt x i))).n + ((n * unitF x / 4096 : Nat) : Int) = z.n + (((n + 1) * unitF x / 4096 : Nat) : Int) := by
      rw [ej]
      rcases hl with e | e <;> rw [e] <;> omega
    rw [ek]
    rfl
theorem runs_eachF : ∀ {xs bs : List L6} {y : L6}, refuF 0 (bs ++ [y]) = 0 → refuF (endF 0 (bs ++ [y])) xs = 0 → runsF (bs ++ [y]) (eachF xs) = runsF (bs ++ [y]) xs
  | [], _, _, _, _ => rfl
  | x :: xs, bs, y, h, hx => by
    obtain ⟨h1, h2, h3⟩ := refuF_zero hx
    obtain ⟨b1, b2⟩ := refuF_app.1 h
    obtain ⟨y1, y2⟩ := refuF_one.1 b2
    obtain ⟨x1, x2, x3, x4, x5, x6⟩ := aloneF_zero h1
    obtain ⟨hm, hc⟩ := cntU_mul h1
    have hd : cntU x * unitF x / 4096 = x.n.toNat := by rw [hm]; omega
    rw [eachF_cons, runsF_some]
    by_cases hg : goesF y x = true
    · rw [if_pos hg]
      obtain ⟨g1, g2, g3, g4, g5⟩ := goesF_iff.1 hg
      obtain ⟨j1, j2⟩ := alone_join y1 h1 hg
      rw [runs_each (x := x) h1 (by omega) (aloneF_zero y1).1 (by rw [Nat.zero_mul]; exact g1.symm) (by rw [Nat.zero_mul]; exact g2.symm) g3.symm g4.symm g5.symm, hd]
      have e : (⟨y.v, y.p, y.n + (x.n.toNat : Int), y.big, y.wr, y.ex⟩ : L6) = joinL y x := by
        unfold joinL
        rw [Int.toNat_of_nonneg (by omega)]
      rw [e]
      refine runs_eachF (refuF_app.2 ⟨b1, refuF_one.2 ⟨j1, y2⟩⟩) ?_
      rw [endF_app]
      show refuF (y.v + (joinL y x).n.toNat * 4096) xs = 0
      rw [j2, Nat.add_mul, ← Nat.add_assoc, ← g1]
      exact h3
    · rw [if_neg hg]
      obtain ⟨c', hc'⟩ : ∃ c', cntU x = c' + 1 := ⟨cntU x - 1, by omega⟩
      have hgu : goesF y (rowU (unitAt x 0)) = goesF y x := by
        unfold goesF rowU unitAt
        simp only [Nat.zero_mul, Nat.add_zero]
      obtain ⟨a1, a2, a3, a4⟩ := unitAt_ok h1 (i := 0) (by omega)
      obtain ⟨r1, r2⟩ := rowU_ok a1 a2 (by omega) (by omega)
      have hu : (unitAt x 0).len = unitF x := rfl
      have en : (rowU (unitAt x 0)).n = ((unitF x / 4096 : Nat) : Int) := rfl
      have hl : unitF x = 2097152 ∨ unitF x = 4096 := by rcases unitF_cases x with ⟨_, e⟩ | ⟨_, e⟩ <;> omega
      rw [hc', eachN_succ]
      show runsF (bs ++ [y]) (rowU (unitAt x 0) :: (eachN x (0 + 1) c' ++ eachF xs)) = _
      rw [runsF_some, hgu, if_neg hg, runs_each (x := x) h1 (by omega) (aloneF_zero r1).1 (by rw [r2, hu]; show x.v + 0 * _ + _ = _; omega) (by rw [r2, hu]; show x.p + 0 * _ + _ = _; omega) rfl rfl rfl]
      have e : (⟨(rowU (unitAt x 0)).v, (rowU (unitAt x 0)).p, (rowU (unitAt x 0)).n + ((c' * unitF x / 4096 : Nat) : Int), (rowU (unitAt x 0)).big, (rowU (unitAt x 0)).wr, (rowU (unitAt x 0)).ex⟩ : L6) = x := by
        have e1 : (rowU (unitAt x 0)).n + ((c' * unitF x / 4096 : Nat) : Int) = x.n := by
          rw [hc'] at hd
          rw [en]
          rcases hl with e | e <;> rw [e] at hd ⊢ <;> omega
        rw [e1]
        unfold rowU unitAt
        simp only [Nat.zero_mul, Nat.add_zero]
      rw [e]
      exact runs_eachF (refuF_app.2 ⟨h, refuF_one.2 ⟨h1, h2⟩⟩) (by rw [endF_app]; exact h3)
theorem runs_each0 {xs : List L6} (h : refuF 0 xs = 0) : runsF [] (eachF xs) = runsF [] xs := by
  cases xs with
  | nil => rfl
  | cons x xs =>
    obtain ⟨h1, h2, h3⟩ := refuF_zero h
    obtain ⟨x1, x2, x3, x4, x5, x6⟩ := aloneF_zero h1
    obtain ⟨hm, hc⟩ := cntU_mul h1
    have hd : cntU x * unitF x / 4096 = x.n.toNat := by rw [hm]; omega
    obtain ⟨c', hc'⟩ : ∃ c', cntU x = c' + 1 := ⟨cntU x - 1, by omega⟩
    obtain ⟨a1, a2, a3, a4⟩ := unitAt_ok h1 (i := 0) (by omega)
    obtain ⟨r1, r2⟩ := rowU_ok a1 a2 (by omega) (by omega)
    have hu : (unitAt x 0).len = unitF x := rfl
    have en : (rowU (unitAt x 0)).n = ((unitF x / 4096 : Nat) : Int) := rfl
    have hl : unitF x = 2097152 ∨ unitF x = 4096 := by rcases unitF_cases x with ⟨_, e⟩ | ⟨_, e⟩ <;> omega
    rw [eachF_cons, hc', eachN_succ]
    show runsF [] (rowU (unitAt x 0) :: (eachN x (0 + 1) c' ++ eachF xs)) = _
    rw [runsF_none, runsF_none]
    have hr := runs_each (x := x) (bs := []) (ys := eachF xs) (z := rowU (unitAt x 0)) h1 (show 0 + 1 + c' = cntU x by omega) (aloneF_zero r1).1 (by rw [r2, hu]; show x.v + 0 * _ + _ = _; omega) (by rw [r2, hu]; show x.p + 0 * _ + _ = _; omega) rfl rfl rfl
    rw [List.nil_append] at hr
    rw [hr]
    have e : (⟨(rowU (unitAt x 0)).v, (rowU (unitAt x 0)).p, (rowU (unitAt x 0)).n + ((c' * unitF x / 4096 : Nat) : Int), (rowU (unitAt x 0)).big, (rowU (unitAt x 0)).wr, (rowU (unitAt x 0)).ex⟩ : L6) = x := by
      have e1 : (rowU (unitAt x 0)).n + ((c' * unitF x / 4096 : Nat) : Int) = x.n := by
        rw [hc'] at hd
        rw [en]
        rcases hl with e | e <;> rw [e] at hd ⊢ <;> omega
      rw [e1]
      unfold rowU unitAt
      simp only [Nat.zero_mul, Nat.add_zero]
    rw [e]
    exact runs_eachF (bs := []) (refuF_one.2 ⟨h1, h2⟩) h3
end Go.Proofs.YtlplbbnicfeoaaaGreat
/- Pages: the document's tables, plainly. Own work. -/
namespace Go.Proofs.YtlplbbnicfeoaaaGreat
open Go.RowKit Wk
set_option linter.unusedVariables false
set_option maxRecDepth 20000
/-- the document's tables: level and number -/
def tsStep (ts : List (Nat × Nat)) (big : Bool) (b : Nat) : List (Nat × Nat) :=
  if big = true then (if (1, b / 512) ∈ ts then ts else ts ++ [(1, b / 512)])
  else (if (2, b) ∈ (if (1, b / 512) ∈ ts then ts else ts ++ [(1, b / 512)]) then (if (1, b / 512) ∈ ts then ts else ts ++ [(1, b / 512)]) else (if (1, b / 512) ∈ ts then ts else ts ++ [(1, b / 512)]) ++ [(2, b)])
def ts1 (ts : List (Nat × Nat)) (a : Nat) : List (Nat × Nat) := if (1, a) ∈ ts then ts else ts ++ [(1, a)]
def ts2 (ts : List (Nat × Nat)) (b : Nat) : List (Nat × Nat) := if (2, b) ∈ ts then ts else ts ++ [(2, b)]
theorem tsStep_eq (ts : List (Nat × Nat)) (big : Bool) (b : Nat) : tsStep ts big b = if big = true then ts1 ts (b / 512) else ts2 (ts1 ts (b / 512)) b := rfl
def tsU (ts : List (Nat × Nat)) (us : List Un) : List (Nat × Nat) := us.foldl (fun ts u => tsStep ts u.big (u.v / 2097152)) ts
theorem tsU_app (ts : List (Nat × Nat)) (us vs : List Un) : tsU ts (us ++ vs) = tsU (tsU ts us) vs := by simp [tsU, List.foldl_append]
/-- the document's tables stand where the builder's do -/
structure Rt (ts : List (Nat × Nat)) (s : Bst) : Prop where
  len : ts.length = s.nx
  z : ts[0]? = some (0, 0)
  A : ∀ a, s.A a = true → ts[T1 s.A s.B a]? = some (1, a)
  B : ∀ b, s.B b = true → ts[T2 s.A s.B b]? = some (2, b)
  mem : ∀ i lv k, ts[i]? = some (lv, k) → (i = 0 ∧ lv = 0 ∧ k = 0) ∨ (lv = 1 ∧ s.A k = true ∧ i = T1 s.A s.B k) ∨ (lv = 2 ∧ s.B k = true ∧ i = T2 s.A s.B k)
theorem rt0 : Rt [(0, 0)] bst0 where
  len := rfl
  z := rfl
  A := fun _ h => by cases h
  B := fun _ h => by cases h
  mem := fun i lv k h => by
    rcases i with _ | i
    · simp only [List.getElem?_cons_zero, Option.some.injEq, Prod.mk.injEq] at h
      exact Or.inl ⟨rfl, h.1.symm, h.2.symm⟩
    · simp at h
theorem Rt.has1 {ts : List (Nat × Nat)} {s : Bst} (h : Rt ts s) (a : Nat) : (1, a) ∈ ts ↔ s.A a = true := by
  constructor
  · intro hm
    obtain ⟨i, hi⟩ := List.mem_iff_getElem?.1 hm
    rcases h.mem i 1 a hi with ⟨_, e, _⟩ | ⟨_, e, _⟩ | ⟨e, _⟩
    · cases e
    · exact e
    · cases e
  · intro ha
    exact List.mem_iff_getElem?.2 ⟨_, h.A a ha⟩
theorem Rt.has2 {ts : List (Nat × Nat)} {s : Bst} (h : Rt ts s) (b : Nat) : (2, b) ∈ ts ↔ s.B b = true := by
  constructor
  · intro hm
    obtain ⟨i, hi⟩ := List.mem_iff_getElem?.1 hm
    rcases h.mem i 2 b hi with ⟨_, e, _⟩ | ⟨e, _⟩ | ⟨_, e, _⟩
    · cases e
    · cases e
    · exact e
  · intro ha
    exact List.mem_iff_getElem?.2 ⟨_, h.B b ha⟩
theorem Cl.new1 {base : Nat} {s : Bst} (h : Cl base s) {k : Nat} (hk : ¬ k < s.n0) : T1 s.A s.B k = s.nx := by
  have hn1 := h.n1_le
  have hcA : cntB s.A k = cntB s.A s.n0 := cntB_none (by omega) (fun i h1 _ => h.noA h1)
  have hcB : cntB s.B (k * 512) = cntB s.B s.n1 := cntB_none (by omega) (fun i h1 _ => h.noB h1)
  unfold T1
  rw [hcA, hcB, h.nx]
theorem Cl.new2 {base : Nat} {s : Bst} (h : Cl base s) {k : Nat} (h0 : k / 512 + 1 = s.n0) (hk : ¬ k < s.n1) : T2 s.A s.B k = s.nx := by
  have hcB : cntB s.B k = cntB s.B s.n1 := cntB_none (by omega) (fun i h1 _ => h.noB h1)
  unfold T2
  rw [h0, hcB, h.nx]
theorem Rt.step1 {base t : Nat} {ts : List (Nat × Nat)} {s : Bst} (h : Rt ts s) (hc : Cl base s) (hu : Up t s) {v : Nat} (ht : t ≤ v) : Rt (ts1 ts (v / 1073741824)) (step1 base s v) := by
  by_cases hk : v / 1073741824 < s.n0
  · have e : v / 1073741824 = s.n0 - 1 := by have := hu.u0 (by omega); omega
    have es : Go.Proofs.YtlplbbnicfeoaaaGreat.step1 base s v = s := by unfold Go.Proofs.YtlplbbnicfeoaaaGreat.step1; rw [if_pos hk]
    rw [es]
    unfold ts1
    rw [if_pos ((h.has1 _).2 (by rw [e]; exact hc.lA (by omega)))]
    exact h
  · have hnew := hc.new1 hk
    have hno : ¬ (1, v / 1073741824) ∈ ts := fun hm => by have := (h.has1 _).1 hm; rw [hc.noA (by omega)] at this; cases this
    unfold ts1 Go.Proofs.YtlplbbnicfeoaaaGreat.step1
    rw [if_neg hno, if_neg hk]
    generalize v / 1073741824 = k at *
    have eT1 : ∀ a, s.A a = true → T1 (putB s.A k) s.B a = T1 s.A s.B a := fun a ha => by
      have := hc.hA a ha
      unfold T1
      rw [cntB_put (by omega)]
    have eTk : T1 (putB s.A k) s.B k = s.nx := by
      rw [← hnew]
      unfold T1
      rw [cntB_put (Nat.le_refl _)]
    have eT2 : ∀ b, s.B b = true → T2 (putB s.A k) s.B b = T2 s.A s.B b := fun b hb => by
      have := hc.hA _ (hc.BA b hb)
      unfold T2
      rw [cntB_put (by omega)]
    have hl := h.len
    refine { len := by simp [hl], z := by rw [List.getElem?_append_left (by have := hc.nx; omega)]; exact h.z, A := ?_, B := ?_, mem := ?_ }
    · intro a ha
      simp only at ha ⊢
      by_cases e : a = k
      · subst e
        rw [eTk, ← hl, List.getElem?_concat_length]
      · rw [putB_ne _ e] at ha
        have := hc.t1_lt ha
        rw [eT1 a ha, List.getElem?_append_left (by omega)]
        exact h.A a ha
    · intro b hb
      simp only at hb ⊢
      have := hc.t2_lt hb
      rw [eT2 b hb, List.getElem?_append_left (by omega)]
      exact h.B b hb
    · intro i lv q hi
      simp only
      by_cases hil : i < ts.length
      · rw [List.getElem?_append_left hil] at hi
        rcases h.mem i lv q hi with h1 | ⟨h1, h2, h3⟩ | ⟨h1, h2, h3⟩
        · exact Or.inl h1
        · refine Or.inr (Or.inl ⟨h1, ?_, ?_⟩)
          · unfold putB; split
            · rfl
            · exact h2
          · rw [eT1 q h2]; exact h3
        · exact Or.inr (Or.inr ⟨h1, h2, by rw [eT2 q h2]; exact h3⟩)
      · have hil2 : i = ts.length := by
          have := (List.getElem?_eq_some_iff.1 hi).1
          simp at this
          omega
        rw [hil2, List.getElem?_concat_length] at hi
        simp only [Option.some.injEq, Prod.mk.injEq] at hi
        obtain ⟨rfl, rfl⟩ := hi
        exact Or.inr (Or.inl ⟨rfl, putB_at _ _, by rw [eTk, hil2, hl]⟩)
theorem Rt.step2 {base : Nat} {ts : List (Nat × Nat)} {s : Bst} (h : Rt ts s) (hc : Cl base s) {v : Nat} (h0 : v / 1073741824 + 1 = s.n0) (hu1 : s.n1 ≠ 0 → (s.n1 - 1) * 2097152 ≤ v) : Rt (ts2 ts (v / 2097152)) (step2 base s v) := by
  by_cases hk : v / 2097152 < s.n1
  · have e : v / 2097152 = s.n1 - 1 := by have := hu1 (by omega); omega
    have es : Go.Proofs.YtlplbbnicfeoaaaGreat.step2 base s v = s := by unfold Go.Proofs.YtlplbbnicfeoaaaGreat.step2; rw [if_pos hk]
    rw [es]
    unfold ts2
    rw [if_pos ((h.has2 _).2 (by rw [e]; exact hc.lB (by omega)))]
    exact h
  · have hk0 : v / 2097152 / 512 + 1 = s.n0 := by omega
    have hnew := hc.new2 hk0 hk
    have hno : ¬ (2, v / 2097152) ∈ ts := fun hm => by have := (h.has2 _).1 hm; rw [hc.noB (by omega)] at this; cases this
    unfold ts2 Go.Proofs.YtlplbbnicfeoaaaGreat.step2
    rw [if_neg hno, if_neg hk]
    generalize v / 2097152 = k at *
    have eT1 : ∀ a, s.A a = true → T1 s.A (putB s.B k) a = T1 s.A s.B a := fun a ha => by
      have := hc.hA a ha
      unfold T1
      rw [cntB_put (by omega)]
    have eT2 : ∀ b, s.B b = true → T2 s.A (putB s.B k) b = T2 s.A s.B b := fun b hb => by
      have := hc.hB b hb
      unfold T2
      rw [cntB_put (by omega)]
    have eTk : T2 s.A (putB s.B k) k = s.nx := by
      rw [← hnew]
      unfold T2
      rw [cntB_put (Nat.le_refl _)]
    have hl := h.len
    refine { len := by simp [hl], z := by rw [List.getElem?_append_left (by have := hc.nx; omega)]; exact h.z, A := ?_, B := ?_, mem := ?_ }
    · intro a ha
      simp only at ha ⊢
      have := hc.t1_lt ha
      rw [eT1 a ha, List.getElem?_append_left (by omega)]
      exact h.A a ha
    · intro b hb
      simp only at hb ⊢
      by_cases e : b = k
      · subst e
        rw [eTk, ← hl, List.getElem?_concat_length]
      · rw [putB_ne _ e] at hb
        have := hc.t2_lt hb
        rw [eT2 b hb, List.getElem?_append_left (by omega)]
        exact h.B b hb
    · intro i lv q hi
      simp only
      by_cases hil : i < ts.length
      · rw [List.getElem?_append_left hil] at hi
        rcases h.mem i lv q hi with h1 | ⟨h1, h2, h3⟩ | ⟨h1, h2, h3⟩
        · exact Or.inl h1
        · exact Or.inr (Or.inl ⟨h1, h2, by rw [eT1 q h2]; exact h3⟩)
        · refine Or.inr (Or.inr ⟨h1, ?_, ?_⟩)
          · unfold putB; split
            · rfl
            · exact h2
          · rw [eT2 q h2]; exact h3
      · have hil2 : i = ts.length := by
          have := (List.getElem?_eq_some_iff.1 hi).1
          simp at this
          omega
        rw [hil2, List.getElem?_concat_length] at hi
        simp only [Option.some.injEq, Prod.mk.injEq] at hi
        obtain ⟨rfl, rfl⟩ := hi
        exact Or.inr (Or.inr ⟨rfl, putB_at _ _, by rw [eTk, hil2, hl]⟩)
theorem Rt.leaf {ts : List (Nat × Nat)} {s : Bst} (h : Rt ts s) (u : Un) : Rt ts (leafS s u) := by
  unfold leafS
  split
  · exact ⟨h.len, h.z, h.A, h.B, h.mem⟩
  · exact ⟨h.len, h.z, h.A, h.B, h.mem⟩
theorem Rt.stepU {base t : Nat} {ts : List (Nat × Nat)} {s : Bst} (h : Rt ts s) (hc : Cl base s) (hu : Up t s) {u : Un} (ht : t ≤ u.v) (hv : u.v < 549755813888) : Rt (tsStep ts u.big (u.v / 2097152)) (stepU base s u) := by
  have e : u.v / 2097152 / 512 = u.v / 1073741824 := by rw [Nat.div_div_eq_div_mul]
  have r1 := h.step1 hc hu ht
  rw [tsStep_eq, e]
  unfold Go.Proofs.YtlplbbnicfeoaaaGreat.stepU
  unfold downS
  by_cases hb : u.big = true
  · rw [if_pos hb, if_pos hb]
    exact r1.leaf u
  · rw [if_neg hb, if_neg hb]
    refine Rt.leaf ?_ u
    refine r1.step2 (hc.step1 hv) (step1_n0 hu ht).symm ?_
    rw [step1_rest.1]
    intro h1
    have := hu.u1 h1
    omega
theorem rt_row {base t : Nat} {ts : List (Nat × Nat)} {s : Bst} {x : L6} (hx : aloneF x = 0) (ht : t ≤ x.v) (hc : Cl base s) (hu : Up t s) (h : Rt ts s) : ∀ i, i ≤ cntU x → Rt (tsU ts (unitsN x i)) (buildU base s (unitsN x i))
  | 0, _ => h
  | i + 1, hi => by
    have ih := rt_row hx ht hc hu h i (by omega)
    obtain ⟨c, u⟩ := row_good hx ht hc hu i (by omega)
    obtain ⟨h1, h2, h3, h4, h5, h6⟩ := aloneF_zero hx
    have hm := (cntU_mul hx).1
    have hle : (i + 1) * unitF x ≤ cntU x * unitF x := Nat.mul_le_mul_right _ hi
    rw [Nat.add_mul] at hle
    have hpos : 0 < unitF x := by rcases unitF_cases x with ⟨_, e⟩ | ⟨_, e⟩ <;> omega
    rw [buildU_succ, unitsN_succ, tsU_app]
    exact ih.stepU c u (u := unitAt x i) (Nat.le_refl _) (by show x.v + i * unitF x < _; omega)
theorem rt_rows {base : Nat} : ∀ {xs : List L6} {t : Nat} {s : Bst} {ts : List (Nat × Nat)}, refuF t xs = 0 → Cl base s → Up t s → Rt ts s → Rt (tsU ts (units xs)) (buildU base s (units xs))
  | [], _, _, _, _, _, _, h => h
  | x :: xs, t, s, ts, hr, hc, hu, h => by
    obtain ⟨h1, h2, h3⟩ := refuF_zero hr
    obtain ⟨c, u⟩ := row_good h1 h2 hc hu (cntU x) (Nat.le_refl _)
    rw [(cntU_mul h1).1] at u
    have r := rt_row h1 h2 hc hu h (cntU x) (Nat.le_refl _)
    have e : buildU base s (units (x :: xs)) = buildU base (buildU base s (unitsN x (cntU x))) (units xs) := by
      rw [← buildU_app]; rfl
    have e2 : tsU ts (units (x :: xs)) = tsU (tsU ts (unitsN x (cntU x))) (units xs) := by
      rw [← tsU_app]; rfl
    rw [e, e2]
    exact rt_rows h3 c u r
/-- chunk by chunk -/
def chF (ts : List (Nat × Nat)) (big : Bool) (b0 : Nat) : Nat → List (Nat × Nat)
  | 0 => ts
  | j + 1 => tsStep (chF ts big b0 j) big (b0 + j)
theorem ts1_mem (ts : List (Nat × Nat)) (a : Nat) : (1, a) ∈ ts1 ts a := by
  unfold ts1
  split
  · assumption
  · simp
theorem ts2_mem (ts : List (Nat × Nat)) (b : Nat) : (2, b) ∈ ts2 ts b := by
  unfold ts2
  split
  · assumption
  · simp
theorem ts2_keeps {ts : List (Nat × Nat)} {b : Nat} {y : Nat × Nat} (h : y ∈ ts) : y ∈ ts2 ts b := by
  unfold ts2
  split
  · exact h
  · simp [h]
theorem tsStep_twice (ts : List (Nat × Nat)) (big : Bool) (b : Nat) : tsStep (tsStep ts big b) big b = tsStep ts big b := by
  rw [tsStep_eq, tsStep_eq]
  by_cases hb : big = true
  · rw [if_pos hb, if_pos hb]
    generalize b / 512 = a
    have := ts1_mem ts a
    generalize ts1 ts a = q at *
    unfold ts1
    rw [if_pos this]
  · rw [if_neg hb, if_neg hb]
    generalize hq : ts1 ts (b / 512) = q
    have h1 : (1, b / 512) ∈ ts2 q b := ts2_keeps (by rw [← hq]; exact ts1_mem _ _)
    have h2 := ts2_mem q b
    generalize ts2 q b = r at *
    have e : ts1 r (b / 512) = r := by unfold ts1; rw [if_pos h1]
    rw [e]
    unfold ts2
    rw [if_pos h2]
theorem tsStep_len (ts : List (Nat × Nat)) (big : Bool) (b : Nat) : ts.length ≤ (tsStep ts big b).length ∧ (tsStep ts big b).length ≤ ts.length + 2 := by
  have h1 : ts.length ≤ (ts1 ts (b / 512)).length ∧ (ts1 ts (b / 512)).length ≤ ts.length + 1 := by
    unfold ts1; split <;> simp
  have h2 : ∀ q : List (Nat × Nat), q.length ≤ (ts2 q b).length ∧ (ts2 q b).length ≤ q.length + 1 := fun q => by
    unfold ts2; split <;> simp
  rw [tsStep_eq]
  split
  · omega
  · have := h2 (ts1 ts (b / 512))
    omega
theorem tsU_len : ∀ (us : List Un) (ts : List (Nat × Nat)), ts.length ≤ (tsU ts us).length
  | [], _ => Nat.le_refl _
  | u :: us, ts => Nat.le_trans (tsStep_len ts u.big (u.v / 2097152)).1 (tsU_len us _)
theorem chF_len (ts : List (Nat × Nat)) (big : Bool) (b0 j : Nat) : ∀ d, (chF ts big b0 j).length ≤ (chF ts big b0 (j + d)).length
  | 0 => Nat.le_refl _
  | d + 1 => Nat.le_trans (chF_len ts big b0 j d) (tsStep_len _ _ _).1
theorem row_chunks {x : L6} (hx : aloneF x = 0) (ts : List (Nat × Nat)) : ∀ i, i < cntU x → tsU ts (unitsN x (i + 1)) = chF ts x.big (x.v / 2097152) ((x.v + i * unitF x) / 2097152 - x.v / 2097152 + 1)
  | 0, _ => by
    have e : x.v + 0 * unitF x = x.v := by rw [Nat.zero_mul]; rfl
    show tsStep ts x.big ((x.v + 0 * unitF x) / 2097152) = _
    rw [e, Nat.sub_self]
    rfl
  | i + 1, hi => by
    have ih := row_chunks hx ts i (by omega)
    obtain ⟨h1, h2, h3, h4, h5, h6⟩ := aloneF_zero hx
    rw [unitsN_succ, tsU_app, ih]
    show tsStep (chF ts x.big (x.v / 2097152) _) x.big ((x.v + (i + 1) * unitF x) / 2097152) = _
    have e : x.v + (i + 1) * unitF x = x.v + i * unitF x + unitF x := by rw [Nat.add_mul]; omega
    have hge : x.v ≤ x.v + i * unitF x := Nat.le_add_right _ _
    rw [e]
    have hl : unitF x = 2097152 ∨ unitF x = 4096 := by rcases unitF_cases x with ⟨_, e⟩ | ⟨_, e⟩ <;> omega
    generalize x.v + i * unitF x = E at *
    generalize hU : unitF x = U at *
    have hd : x.v / 2097152 ≤ E / 2097152 := Nat.div_le_div_right hge
    by_cases hsame : (E + U) / 2097152 = E / 2097152
    · rw [hsame]
      show tsStep (tsStep _ _ (x.v / 2097152 + (E / 2097152 - x.v / 2097152))) _ _ = chF _ _ _ _
      rw [show x.v / 2097152 + (E / 2097152 - x.v / 2097152) = E / 2097152 by omega, tsStep_twice]
      show _ = tsStep _ _ (x.v / 2097152 + (E / 2097152 - x.v / 2097152))
      rw [show x.v / 2097152 + (E / 2097152 - x.v / 2097152) = E / 2097152 by omega]
    · have hn : (E + U) / 2097152 = E / 2097152 + 1 := by
        rcases hl with e | e <;> rw [e] at hsame ⊢ <;> omega
      rw [hn, show E / 2097152 + 1 - x.v / 2097152 + 1 = (E / 2097152 - x.v / 2097152 + 1) + 1 by omega]
      show _ = tsStep (chF _ _ _ (E / 2097152 - x.v / 2097152 + 1)) _ (x.v / 2097152 + (E / 2097152 - x.v / 2097152 + 1))
      rw [show x.v / 2097152 + (E / 2097152 - x.v / 2097152 + 1) = E / 2097152 + 1 by omega]
theorem row_tabs {x : L6} (hx : aloneF x = 0) (ts : List (Nat × Nat)) : tsU ts (unitsL x) = chF ts x.big (x.v / 2097152) ((x.v + x.n.toNat * 4096 - 1) / 2097152 + 1 - x.v / 2097152) := by
  obtain ⟨h1, h2, h3, h4, h5, h6⟩ := aloneF_zero hx
  obtain ⟨hm, hc⟩ := cntU_mul hx
  have h := row_chunks hx ts (cntU x - 1) (by omega)
  rw [show cntU x - 1 + 1 = cntU x by omega] at h
  have e : (cntU x - 1) * unitF x + unitF x = x.n.toNat * 4096 := by
    rw [← hm, Nat.sub_mul, Nat.one_mul]
    have : unitF x ≤ cntU x * unitF x := Nat.le_mul_of_pos_left _ hc
    omega
  have hl : unitF x = 2097152 ∨ unitF x = 4096 := by rcases unitF_cases x with ⟨_, e⟩ | ⟨_, e⟩ <;> omega
  have hmod : (x.v + (cntU x - 1) * unitF x) % unitF x = 0 := by rw [Nat.add_mul_mod_self_right]; exact h2
  have hge : x.v ≤ x.v + (cntU x - 1) * unitF x := Nat.le_add_right _ _
  have hE : x.v + (cntU x - 1) * unitF x + unitF x = x.v + x.n.toNat * 4096 := by omega
  show tsU ts (unitsN x (cntU x)) = _
  rw [h]
  congr 1
  generalize x.v + (cntU x - 1) * unitF x = E at *
  rw [← hE]
  rcases hl with hu | hu <;> rw [hu] at hmod hE ⊢ <;> omega
end Go.Proofs.YtlplbbnicfeoaaaGreat
/- Pages: the tables hold the leaves, and no other. Own work. -/
namespace Go.Proofs.YtlplbbnicfeoaaaGreat
open Go.RowKit Wk
set_option linter.unusedVariables false
set_option maxRecDepth 20000
theorem val_pos (u : Un) : u.val ≠ 0 := by unfold Un.val; omega
theorem stepU_L {base : Nat} {s : Bst} {u : Un} : (stepU base s u).L1 = (if u.big = true then putM s.L1 (u.v / 2097152) u.val else s.L1) ∧ (stepU base s u).L2 = (if u.big = true then s.L2 else putM s.L2 (u.v / 4096) u.val) := by
  obtain ⟨_, _, r3, r4, _, _⟩ := step1_rest (base := base) (s := s) (v := u.v)
  obtain ⟨_, _, q3, q4, _, _⟩ := step2_rest (base := base) (s := step1 base s u.v) (v := u.v)
  unfold stepU downS leafS
  by_cases hb : u.big = true
  · rw [if_pos hb, if_pos hb, if_pos hb, if_pos hb]
    exact ⟨by rw [← r3], r4⟩
  · rw [if_neg hb, if_neg hb, if_neg hb, if_neg hb]
    exact ⟨q3.trans r3, by rw [← r4, ← q4]⟩
/-- the leaves that stand in the tables are just these -/
structure Kn (us : List Un) (s : Bst) : Prop where
  b1 : ∀ u ∈ us, u.big = true → s.L1 (u.v / 2097152) = u.val
  s1 : ∀ u ∈ us, u.big = false → s.L2 (u.v / 4096) = u.val
  b2 : ∀ b, s.L1 b ≠ 0 → ∃ u ∈ us, u.big = true ∧ u.v / 2097152 = b ∧ s.L1 b = u.val
  s2 : ∀ c, s.L2 c ≠ 0 → ∃ u ∈ us, u.big = false ∧ u.v / 4096 = c ∧ s.L2 c = u.val
  nb : ∀ b, s.L1 b ≠ 0 → s.B b = false
theorem stepU_B {base : Nat} {s : Bst} {u : Un} : (u.big = true → (stepU base s u).B = s.B) ∧ (∀ b, b ≠ u.v / 2097152 → (stepU base s u).B b = s.B b) := by
  obtain ⟨_, _, _, _, r5, _⟩ := step1_rest (base := base) (s := s) (v := u.v)
  have q : ∀ s' : Bst, (leafS s' u).B = s'.B := by intro s'; unfold leafS; split <;> rfl
  unfold stepU
  rw [q]
  unfold downS
  by_cases hb : u.big = true
  · rw [if_pos hb]
    exact ⟨fun _ => r5, fun b _ => by rw [r5]⟩
  · rw [if_neg hb]
    refine ⟨fun e => absurd e hb, fun b e => ?_⟩
    rw [← r5]
    unfold step2
    split
    · rfl
    · show putB (step1 base s u.v).B (u.v / 2097152) b = _
      exact putB_ne _ e
theorem kn0 : Kn [] bst0 := by
  refine ⟨?_, ?_, ?_, ?_, ?_⟩
  · intro u h; cases h
  · intro u h; cases h
  · intro b h; exact absurd rfl h
  · intro b h; exact absurd rfl h
  · intro b h; rfl
theorem Kn.step {base t : Nat} {us : List Un} {s : Bst} (h : Kn us s) (hc : Cl base s) (hu : Up t s) {u : Un} (ht : t ≤ u.v) (hal : u.v % u.len = 0) : Kn (us ++ [u]) (stepU base s u) := by
  obtain ⟨e1, e2⟩ := stepU_L (base := base) (s := s) (u := u)
  have hk1 : ∀ b, s.L1 b ≠ 0 → b ≠ u.v / 2097152 := fun b hb => by have := hu.l1 b hb; omega
  have hk2 : ∀ c, s.L2 c ≠ 0 → c ≠ u.v / 4096 := fun c hc => by have := hu.l2 c hc; omega
  by_cases hb : u.big = true
  · rw [if_pos hb] at e1 e2
    refine ⟨?_, ?_, ?_, ?_, ?_⟩
    · intro x hx hxb
      rw [e1]
      rcases List.mem_append.1 hx with hx | hx
      · have h5 := h.b1 x hx hxb
        rw [putM_ne _ (hk1 _ (by rw [h5]; exact val_pos x))]
        exact h5
      · rw [List.mem_singleton.1 hx, putM_at]
    · intro x hx hxb
      rw [e2]
      rcases List.mem_append.1 hx with hx | hx
      · exact h.s1 x hx hxb
      · rw [List.mem_singleton.1 hx, hb] at hxb
        cases hxb
    · intro b hz
      rw [e1] at hz ⊢
      by_cases e : b = u.v / 2097152
      · subst e
        exact ⟨u, by simp, hb, rfl, putM_at _ _ _⟩
      · rw [putM_ne _ e] at hz ⊢
        obtain ⟨x, hx, a1, a2, a3⟩ := h.b2 b hz
        exact ⟨x, by simp [hx], a1, a2, a3⟩
    · intro c hz
      rw [e2] at hz ⊢
      obtain ⟨x, hx, a1, a2, a3⟩ := h.s2 c hz
      exact ⟨x, by simp [hx], a1, a2, a3⟩
    · intro b hz
      rw [e1] at hz
      rw [(stepU_B (base := base) (s := s) (u := u)).1 hb]
      by_cases e : b = u.v / 2097152
      · have hlen : u.len = 2097152 := by unfold Un.len; rw [hb]; rfl
        rw [hlen] at hal
        cases hB : s.B b with
        | false => rfl
        | true =>
          have hlt := hc.hB b hB
          have hup := hu.u1 (by omega)
          exfalso
          omega
      · rw [putM_ne _ e] at hz
        exact h.nb b hz
  · rw [if_neg hb] at e1 e2
    have hbf : u.big = false := by simpa using hb
    refine ⟨?_, ?_, ?_, ?_, ?_⟩
    · intro x hx hxb
      rw [e1]
      rcases List.mem_append.1 hx with hx | hx
      · exact h.b1 x hx hxb
      · rw [List.mem_singleton.1 hx] at hxb
        exact absurd hxb hb
    · intro x hx hxb
      rw [e2]
      rcases List.mem_append.1 hx with hx | hx
      · have h5 := h.s1 x hx hxb
        rw [putM_ne _ (hk2 _ (by rw [h5]; exact val_pos x))]
        exact h5
      · rw [List.mem_singleton.1 hx, putM_at]
    · intro b hz
      rw [e1] at hz ⊢
      obtain ⟨x, hx, a1, a2, a3⟩ := h.b2 b hz
      exact ⟨x, by simp [hx], a1, a2, a3⟩
    · intro c hz
      rw [e2] at hz ⊢
      by_cases e : c = u.v / 4096
      · subst e
        exact ⟨u, by simp, hbf, rfl, putM_at _ _ _⟩
      · rw [putM_ne _ e] at hz ⊢
        obtain ⟨x, hx, a1, a2, a3⟩ := h.s2 c hz
        exact ⟨x, by simp [hx], a1, a2, a3⟩
    · intro b hz
      rw [e1] at hz
      rw [(stepU_B (base := base) (s := s) (u := u)).2 b (hk1 b hz)]
      exact h.nb b hz
theorem kn_row {base t : Nat} {us : List Un} {s : Bst} {x : L6} (hx : aloneF x = 0) (ht : t ≤ x.v) (hc : Cl base s) (hu : Up t s) (h : Kn us s) : ∀ i, i ≤ cntU x → Kn (us ++ unitsN x i) (buildU base s (unitsN x i))
  | 0, _ => by
    have e : us ++ unitsN x 0 = us := by simp [unitsN]
    rw [e]
    exact h
  | i + 1, hi => by
    have ih := kn_row hx ht hc hu h i (by omega)
    obtain ⟨c, u⟩ := row_good hx ht hc hu i (by omega)
    rw [buildU_succ, unitsN_succ, ← List.append_assoc]
    refine ih.step c u (u := unitAt x i) (Nat.le_refl _) ?_
    rw [unitAt_len]
    show (x.v + i * unitF x) % unitF x = 0
    rw [Nat.add_mul_mod_self_right]
    exact (aloneF_zero hx).2.1
theorem kn_rows {base : Nat} : ∀ {xs : List L6} {t : Nat} {us : List Un} {s : Bst}, refuF t xs = 0 → Cl base s → Up t s → Kn us s → Kn (us ++ units xs) (buildU base s (units xs))
  | [], _, us, _, _, _, _, h => by
    have e : us ++ units [] = us := by simp [units]
    rw [e]
    exact h
  | x :: xs, t, us, s, hr, hc, hu, h => by
    obtain ⟨h1, h2, h3⟩ := refuF_zero hr
    obtain ⟨c, u⟩ := row_good h1 h2 hc hu (cntU x) (Nat.le_refl _)
    rw [(cntU_mul h1).1] at u
    have r := kn_row h1 h2 hc hu h (cntU x) (Nat.le_refl _)
    have e : buildU base s (units (x :: xs)) = buildU base (buildU base s (unitsN x (cntU x))) (units xs) := by
      rw [← buildU_app]; rfl
    have e2 : us ++ units (x :: xs) = us ++ unitsN x (cntU x) ++ units xs := by
      rw [List.append_assoc]; rfl
    rw [e, e2]
    exact kn_rows h3 c u r
theorem Kn.has {base : Nat} {us : List Un} {s : Bst} (hk : Kn us s) (hc : Cl base s) : ∀ u ∈ us, s.A (u.v / 1073741824) = true ∧ (u.big = false → s.B (u.v / 2097152) = true) := by
  intro u hu
  cases hb : u.big with
  | true =>
    have h1 := hc.L1A (u.v / 2097152) (by rw [hk.b1 u hu hb]; exact val_pos u)
    rw [Nat.div_div_eq_div_mul] at h1
    exact ⟨h1, fun e => by cases e⟩
  | false =>
    have h1 := hc.L2B (u.v / 4096) (by rw [hk.s1 u hu hb]; exact val_pos u)
    rw [Nat.div_div_eq_div_mul] at h1
    have h2 := hc.BA _ h1
    rw [Nat.div_div_eq_div_mul] at h2
    exact ⟨h2, fun _ => h1⟩
/-- what the tables say of an address that a leaf holds -/
theorem walk_yes {base : Nat} {us : List Un} {s : Bst} (hc : Cl base s) (hk : Kn us s) {u : Un} (hu : u ∈ us) (hl : u.v % u.len = 0) {a : Nat} (h1 : u.v ≤ a) (h2 : a < u.v + u.len) (ha : a < 549755813888) :
    s.A (a / 1073741824) = true ∧ s.M (a / 1073741824) = base + T1 s.A s.B (a / 1073741824) * 4096 + 1 ∧ (u.big = true → s.B (a / 2097152) = false ∧ s.M (T1 s.A s.B (a / 1073741824) * 512 + a / 2097152 % 512) = u.val) ∧ (u.big = false → s.B (a / 2097152) = true ∧ s.M (T1 s.A s.B (a / 1073741824) * 512 + a / 2097152 % 512) = base + T2 s.A s.B (a / 2097152) * 4096 + 1 ∧ s.M (T2 s.A s.B (a / 2097152) * 512 + a / 4096 % 512) = u.val) := by
  obtain ⟨hA1, hB1⟩ := hk.has hc u hu
  have hlen : (u.big = true ∧ u.len = 2097152) ∨ (u.big = false ∧ u.len = 4096) := by unfold Un.len; cases u.big <;> simp
  have e0 : a / 1073741824 = u.v / 1073741824 := by rcases hlen with ⟨_, e⟩ | ⟨_, e⟩ <;> rw [e] at hl h2 <;> omega
  have e1 : a / 2097152 = u.v / 2097152 := by rcases hlen with ⟨_, e⟩ | ⟨_, e⟩ <;> rw [e] at hl h2 <;> omega
  have hAa : s.A (a / 1073741824) = true := by rw [e0]; exact hA1
  have ek : a / 1073741824 * 512 + a / 2097152 % 512 = a / 2097152 := by omega
  have hmid := hc.c1 _ hAa (a / 2097152 % 512) (Nat.mod_lt _ (by decide))
  rw [ek] at hmid
  refine ⟨hAa, ?_, ?_, ?_⟩
  · rw [hc.c0 _ (show a / 1073741824 < 512 by omega), hAa, cond_true]
  · intro hb
    have hL := hk.b1 u hu hb
    have hnB : s.B (a / 2097152) = false := by
      rw [e1]
      exact hk.nb _ (by rw [hL]; exact val_pos u)
    refine ⟨hnB, ?_⟩
    rw [hmid, hnB, cond_false, e1]
    exact hL
  · intro hb
    have hBb : s.B (a / 2097152) = true := by rw [e1]; exact hB1 hb
    have hlen4 : u.len = 4096 := by rcases hlen with ⟨e, _⟩ | ⟨_, e⟩; · rw [hb] at e; cases e
                                    · exact e
    have e2 : a / 4096 = u.v / 4096 := by rw [hlen4] at hl h2; omega
    refine ⟨hBb, by rw [hmid, hBb, cond_true], ?_⟩
    have hlow := hc.c2 _ hBb (a / 4096 % 512) (Nat.mod_lt _ (by decide))
    rw [show a / 2097152 * 512 + a / 4096 % 512 = a / 4096 by omega] at hlow
    rw [hlow, e2]
    exact hk.s1 u hu hb
/-- what the tables say of an address that no leaf holds -/
theorem walk_no {base : Nat} {us : List Un} {s : Bst} (hc : Cl base s) (hk : Kn us s) (hal : ∀ u ∈ us, u.v % u.len = 0) {a : Nat} (hno : ∀ u ∈ us, ¬ (u.v ≤ a ∧ a < u.v + u.len)) (ha : a < 549755813888) :
    (s.A (a / 1073741824) = false ∧ s.M (a / 1073741824) = 0) ∨ (s.A (a / 1073741824) = true ∧ s.M (a / 1073741824) = base + T1 s.A s.B (a / 1073741824) * 4096 + 1 ∧ ((s.B (a / 2097152) = false ∧ s.M (T1 s.A s.B (a / 1073741824) * 512 + a / 2097152 % 512) = 0) ∨ (s.B (a / 2097152) = true ∧ s.M (T1 s.A s.B (a / 1073741824) * 512 + a / 2097152 % 512) = base + T2 s.A s.B (a / 2097152) * 4096 + 1 ∧ s.M (T2 s.A s.B (a / 2097152) * 512 + a / 4096 % 512) = 0))) := by
  have h0 := hc.c0 _ (show a / 1073741824 < 512 by omega)
  cases hA : s.A (a / 1073741824) with
  | false =>
    rw [hA, cond_false] at h0
    exact .inl ⟨rfl, h0⟩
  | true =>
    rw [hA, cond_true] at h0
    refine .inr ⟨rfl, h0, ?_⟩
    have ek : a / 1073741824 * 512 + a / 2097152 % 512 = a / 2097152 := by omega
    have hmid := hc.c1 _ hA (a / 2097152 % 512) (Nat.mod_lt _ (by decide))
    rw [ek] at hmid
    cases hB : s.B (a / 2097152) with
    | false =>
      rw [hB, cond_false] at hmid
      refine .inl ⟨rfl, hmid.trans ?_⟩
      refine Decidable.byContradiction fun hz => ?_
      obtain ⟨u, hu, hb, hv, _⟩ := hk.b2 _ hz
      have hlen : u.len = 2097152 := by unfold Un.len; rw [hb]; rfl
      have h5 := hal u hu
      have h6 := hno u hu
      rw [hlen] at h5 h6
      omega
    | true =>
      rw [hB, cond_true] at hmid
      refine .inr ⟨rfl, hmid, ?_⟩
      have hlow := hc.c2 _ hB (a / 4096 % 512) (Nat.mod_lt _ (by decide))
      rw [show a / 2097152 * 512 + a / 4096 % 512 = a / 4096 by omega] at hlow
      refine hlow.trans ?_
      refine Decidable.byContradiction fun hz => ?_
      obtain ⟨u, hu, hb, hv, _⟩ := hk.s2 _ hz
      have hlen : u.len = 4096 := by unfold Un.len; rw [hb]; rfl
      have h5 := hal u hu
      have h6 := hno u hu
      rw [hlen] at h5 h6
      omega
end Go.Proofs.YtlplbbnicfeoaaaGreat
/- Pages: an address, its leaf and its entries. Own work. -/
namespace Go.Proofs.YtlplbbnicfeoaaaGreat
open Go.RowKit Wk
set_option linter.unusedVariables false
set_option maxRecDepth 20000
theorem refuF_all : ∀ {xs : List L6} {t : Nat}, refuF t xs = 0 → ∀ x ∈ xs, aloneF x = 0
  | [], _, _ => by intro x h; cases h
  | y :: ys, t, hr => by
    intro x hx
    obtain ⟨h1, _, h3⟩ := refuF_zero hr
    rcases List.mem_cons.1 hx with e | e
    · rw [e]; exact h1
    · exact refuF_all h3 x e
theorem units_mem {xs : List L6} {u : Un} : u ∈ units xs ↔ ∃ x ∈ xs, ∃ i, i < cntU x ∧ u = unitAt x i := by
  unfold units unitsL unitsN
  simp only [List.mem_flatMap, List.mem_map, List.mem_range]
  constructor
  · rintro ⟨x, hx, i, hi, e⟩
    exact ⟨x, hx, i, hi, e.symm⟩
  · rintro ⟨x, hx, i, hi, e⟩
    exact ⟨x, hx, i, hi, e.symm⟩
theorem units_al {xs : List L6} (hr : refuF 0 xs = 0) : ∀ u ∈ units xs, u.v % u.len = 0 := by
  intro u hu
  obtain ⟨x, hx, i, hi, e⟩ := units_mem.1 hu
  rw [e, unitAt_len]
  show (x.v + i * unitF x) % unitF x = 0
  rw [Nat.add_mul_mod_self_right]
  exact (aloneF_zero (refuF_all hr x hx)).2.1
/-- an address lies in a row just where it lies in one of the row's units -/
theorem row_unit {x : L6} (hx : aloneF x = 0) {a : Nat} : (x.v ≤ a ∧ a < x.v + x.n.toNat * 4096) ↔ ∃ i, i < cntU x ∧ (unitAt x i).v ≤ a ∧ a < (unitAt x i).v + unitF x := by
  obtain ⟨hm, _⟩ := cntU_mul hx
  have hpos : 0 < unitF x := by rcases unitF_cases x with ⟨_, e⟩ | ⟨_, e⟩ <;> omega
  constructor
  · rintro ⟨h1, h2⟩
    have h4 : (a - x.v) / unitF x * unitF x ≤ a - x.v := Nat.div_mul_le_self _ _
    have h5 : a - x.v < ((a - x.v) / unitF x + 1) * unitF x := by
      have := Nat.lt_div_mul_add (a := a - x.v) hpos
      rw [Nat.add_mul]
      omega
    refine ⟨(a - x.v) / unitF x, ?_, ?_, ?_⟩
    · rw [Nat.div_lt_iff_lt_mul hpos, hm]
      omega
    · show x.v + (a - x.v) / unitF x * unitF x ≤ a
      omega
    · show a < x.v + (a - x.v) / unitF x * unitF x + unitF x
      rw [Nat.add_mul] at h5
      omega
  · rintro ⟨i, hi, h1, h2⟩
    have h1' : x.v + i * unitF x ≤ a := h1
    have h2' : a < x.v + i * unitF x + unitF x := h2
    have hle : (i + 1) * unitF x ≤ cntU x * unitF x := Nat.mul_le_mul_right _ hi
    rw [hm, Nat.add_mul] at hle
    omega
theorem rows_unit {xs : List L6} (hr : refuF 0 xs = 0) {a : Nat} : (∃ x ∈ xs, x.v ≤ a ∧ a < x.v + x.n.toNat * 4096) ↔ ∃ u ∈ units xs, u.v ≤ a ∧ a < u.v + u.len := by
  constructor
  · rintro ⟨x, hx, h⟩
    obtain ⟨i, hi, h1, h2⟩ := (row_unit (refuF_all hr x hx)).1 h
    exact ⟨unitAt x i, units_mem.2 ⟨x, hx, i, hi, rfl⟩, h1, h2⟩
  · rintro ⟨u, hu, h1, h2⟩
    obtain ⟨x, hx, i, hi, e⟩ := units_mem.1 hu
    subst e
    exact ⟨x, hx, (row_unit (refuF_all hr x hx)).2 ⟨i, hi, h1, h2⟩⟩
/-- the whole build -/
theorem kn_full {xs : List L6} (base : Nat) (hr : refuF 0 xs = 0) : Kn (units xs) (buildU base bst0 (units xs)) ∧ Cl base (buildU base bst0 (units xs)) := ⟨kn_rows hr (cl0 base) up0 kn0, (rows_good hr (cl0 base) up0).1⟩
theorem full_no {xs : List L6} {base : Nat} {s : Bst} (hs : s = buildU base bst0 (units xs)) (hr : refuF 0 xs = 0) {a : Nat} (ha : a < 549755813888) (hno : ∀ x ∈ xs, ¬ (x.v ≤ a ∧ a < x.v + x.n.toNat * 4096)) :
    (s.A (a / 1073741824) = false ∧ s.M (a / 1073741824) = 0) ∨ (s.A (a / 1073741824) = true ∧ s.M (a / 1073741824) = base + T1 s.A s.B (a / 1073741824) * 4096 + 1 ∧ ((s.B (a / 2097152) = false ∧ s.M (T1 s.A s.B (a / 1073741824) * 512 + a / 2097152 % 512) = 0) ∨ (s.B (a / 2097152) = true ∧ s.M (T1 s.A s.B (a / 1073741824) * 512 + a / 2097152 % 512) = base + T2 s.A s.B (a / 2097152) * 4096 + 1 ∧ s.M (T2 s.A s.B (a / 2097152) * 512 + a / 4096 % 512) = 0))) := by
  subst hs
  exact walk_no (kn_full base hr).2 (kn_full base hr).1 (units_al hr) (a := a) (fun u hu h => by obtain ⟨x, hx, h2⟩ := (rows_unit hr).2 ⟨u, hu, h⟩; exact hno x hx h2) ha
theorem full_yes {xs : List L6} {base : Nat} {s : Bst} (hs : s = buildU base bst0 (units xs)) (hr : refuF 0 xs = 0) {x : L6} (hx : x ∈ xs) {i : Nat} (hi : i < cntU x) {a : Nat} (h1 : (unitAt x i).v ≤ a) (h2 : a < (unitAt x i).v + unitF x) (ha : a < 549755813888) :
    s.A (a / 1073741824) = true ∧ s.M (a / 1073741824) = base + T1 s.A s.B (a / 1073741824) * 4096 + 1 ∧ (x.big = true → s.B (a / 2097152) = false ∧ s.M (T1 s.A s.B (a / 1073741824) * 512 + a / 2097152 % 512) = (unitAt x i).val) ∧ (x.big = false → s.B (a / 2097152) = true ∧ s.M (T1 s.A s.B (a / 1073741824) * 512 + a / 2097152 % 512) = base + T2 s.A s.B (a / 2097152) * 4096 + 1 ∧ s.M (T2 s.A s.B (a / 2097152) * 512 + a / 4096 % 512) = (unitAt x i).val) := by
  subst hs
  have hu := units_mem.2 ⟨x, hx, i, hi, rfl⟩
  exact walk_yes (kn_full base hr).2 (kn_full base hr).1 hu (units_al hr _ hu) h1 h2 ha
end Go.Proofs.YtlplbbnicfeoaaaGreat
