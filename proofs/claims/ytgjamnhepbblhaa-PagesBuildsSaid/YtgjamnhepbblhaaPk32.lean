import Derived.Test.YtgjamnhepbblhaaPk31
import Derived.Test.YtgjamnhepbblhaaPk30
/- Pages: an address, its leaf and its entries. Own work. -/
namespace Go.Proofs.Ytgjamnhepbblhaa
open Go.RowKit Wk
set_option linter.unusedVariables false
set_option maxRecDepth 20000
theorem refuF_all : ∀ {xs : List L6} {t : Nat}, refuF t xs = 0 → ∀ x ∈ xs, aloneF x = 0
  | [], _, _ => by intro x h; cases h
  | y :: ys, t, hr => by
    intro x hx
    obtain ⟨h1, _, h3⟩ := refuF_zero hr
    rcases List.mem_cons.1 hx with e | e
    · rw [e]; exact h1
    · exact refuF_all h3 x e
theorem units_mem {xs : List L6} {u : Un} : u ∈ units xs ↔ ∃ x ∈ xs, ∃ i, i < cntU x ∧ u = unitAt x i := by
  unfold units unitsL unitsN
  simp only [List.mem_flatMap, List.mem_map, List.mem_range]
  constructor
  · rintro ⟨x, hx, i, hi, e⟩
    exact ⟨x, hx, i, hi, e.symm⟩
  · rintro ⟨x, hx, i, hi, e⟩
    exact ⟨x, hx, i, hi, e.symm⟩
theorem units_al {xs : List L6} (hr : refuF 0 xs = 0) : ∀ u ∈ units xs, u.v % u.len = 0 := by
  intro u hu
  obtain ⟨x, hx, i, hi, e⟩ := units_mem.1 hu
  rw [e, unitAt_len]
  show (x.v + i * unitF x) % unitF x = 0
  rw [Nat.add_mul_mod_self_right]
  exact (aloneF_zero (refuF_all hr x hx)).2.1
/-- an address lies in a row just where it lies in one of the row's units -/
theorem row_unit {x : L6} (hx : aloneF x = 0) {a : Nat} : (x.v ≤ a ∧ a < x.v + x.n.toNat * 4096) ↔ ∃ i, i < cntU x ∧ (unitAt x i).v ≤ a ∧ a < (unitAt x i).v + unitF x := by
  obtain ⟨hm, _⟩ := cntU_mul hx
  have hpos : 0 < unitF x := by rcases unitF_cases x with ⟨_, e⟩ | ⟨_, e⟩ <;> omega
  constructor
  · rintro ⟨h1, h2⟩
    have h4 : (a - x.v) / unitF x * unitF x ≤ a - x.v := Nat.div_mul_le_self _ _
    have h5 : a - x.v < ((a - x.v) / unitF x + 1) * unitF x := by
      have := Nat.lt_div_mul_add (a := a - x.v) hpos
      rw [Nat.add_mul]
      omega
    refine ⟨(a - x.v) / unitF x, ?_, ?_, ?_⟩
    · rw [Nat.div_lt_iff_lt_mul hpos, hm]
      omega
    · show x.v + (a - x.v) / unitF x * unitF x ≤ a
      omega
    · show a < x.v + (a - x.v) / unitF x * unitF x + unitF x
      rw [Nat.add_mul] at h5
      omega
  · rintro ⟨i, hi, h1, h2⟩
    have h1' : x.v + i * unitF x ≤ a := h1
    have h2' : a < x.v + i * unitF x + unitF x := h2
    have hle : (i + 1) * unitF x ≤ cntU x * unitF x := Nat.mul_le_mul_right _ hi
    rw [hm, Nat.add_mul] at hle
    omega
theorem rows_unit {xs : List L6} (hr : refuF 0 xs = 0) {a : Nat} : (∃ x ∈ xs, x.v ≤ a ∧ a < x.v + x.n.toNat * 4096) ↔ ∃ u ∈ units xs, u.v ≤ a ∧ a < u.v + u.len := by
  constructor
  · rintro ⟨x, hx, h⟩
    obtain ⟨i, hi, h1, h2⟩ := (row_unit (refuF_all hr x hx)).1 h
    exact ⟨unitAt x i, units_mem.2 ⟨x, hx, i, hi, rfl⟩, h1, h2⟩
  · rintro ⟨u, hu, h1, h2⟩
    obtain ⟨x, hx, i, hi, e⟩ := units_mem.1 hu
    subst e
    exact ⟨x, hx, (row_unit (refuF_all hr x hx)).2 ⟨i, hi, h1, h2⟩⟩
/-- the whole build -/
theorem kn_full {xs : List L6} (base : Nat) (hr : refuF 0 xs = 0) : Kn (units xs) (buildU base bst0 (units xs)) ∧ Cl base (buildU base bst0 (units xs)) := ⟨kn_rows hr (cl0 base) up0 kn0, (rows_good hr (cl0 base) up0).1⟩
theorem full_no {xs : List L6} {base : Nat} {s : Bst} (hs : s = buildU base bst0 (units xs)) (hr : refuF 0 xs = 0) {a : Nat} (ha : a < 549755813888) (hno : ∀ x ∈ xs, ¬ (x.v ≤ a ∧ a < x.v + x.n.toNat * 4096)) :
    (s.A (a / 1073741824) = false ∧ s.M (a / 1073741824) = 0) ∨ (s.A (a / 1073741824) = true ∧ s.M (a / 1073741824) = base + T1 s.A s.B (a / 1073741824) * 4096 + 1 ∧ ((s.B (a / 2097152) = false ∧ s.M (T1 s.A s.B (a / 1073741824) * 512 + a / 2097152 % 512) = 0) ∨ (s.B (a / 2097152) = true ∧ s.M (T1 s.A s.B (a / 1073741824) * 512 + a / 2097152 % 512) = base + T2 s.A s.B (a / 2097152) * 4096 + 1 ∧ s.M (T2 s.A s.B (a / 2097152) * 512 + a / 4096 % 512) = 0))) := by
  subst hs
  exact walk_no (kn_full base hr).2 (kn_full base hr).1 (units_al hr) (a := a) (fun u hu h => by obtain ⟨x, hx, h2⟩ := (rows_unit hr).2 ⟨u, hu, h⟩; exact hno x hx h2) ha
theorem full_yes {xs : List L6} {base : Nat} {s : Bst} (hs : s = buildU base bst0 (units xs)) (hr : refuF 0 xs = 0) {x : L6} (hx : x ∈ xs) {i : Nat} (hi : i < cntU x) {a : Nat} (h1 : (unitAt x i).v ≤ a) (h2 : a < (unitAt x i).v + unitF x) (ha : a < 549755813888) :
    s.A (a / 1073741824) = true ∧ s.M (a / 1073741824) = base + T1 s.A s.B (a / 1073741824) * 4096 + 1 ∧ (x.big = true → s.B (a / 2097152) = false ∧ s.M (T1 s.A s.B (a / 1073741824) * 512 + a / 2097152 % 512) = (unitAt x i).val) ∧ (x.big = false → s.B (a / 2097152) = true ∧ s.M (T1 s.A s.B (a / 1073741824) * 512 + a / 2097152 % 512) = base + T2 s.A s.B (a / 2097152) * 4096 + 1 ∧ s.M (T2 s.A s.B (a / 2097152) * 512 + a / 4096 % 512) = (unitAt x i).val) := by
  subst hs
  have hu := units_mem.2 ⟨x, hx, i, hi, rfl⟩
  exact walk_yes (kn_full base hr).2 (kn_full base hr).1 hu (units_al hr _ hu) h1 h2 ha
end Go.Proofs.Ytgjamnhepbblhaa
/- Pages: what the document's Build lays, slot by slot. Own work. -/
namespace Go.Proofs.Ytgjamnhepbblhaa
open Go.RowKit Wk
set_option linter.unusedVariables false
set_option maxRecDepth 20000
theorem or_add {a b : Nat} (ha : a ≤ 18446744073709551615) (h16 : a % 16 = 0) (hb : b < 16) : bits .or .u64 (a : Int) (b : Int) = ((a + b : Nat) : Int) := by
  rw [u64_or_nat a b (by omega) (by omega)]
  have h : 2 ^ 4 * (a / 16) + b = 2 ^ 4 * (a / 16) ||| b := Nat.two_pow_add_eq_or_of_lt (i := 4) (by omega) (a / 16)
  have e : 2 ^ 4 * (a / 16) = a := by omega
  rw [e] at h
  rw [← h]
theorem or_eight : ∀ f, f < 8 → f ||| 8 = f + 8 := by decide
theorem or_add8 {a f : Nat} (ha : a + f ≤ 18446744073709551615) (h16 : a % 16 = 0) (hf : f < 8) : bits .or .u64 ((a + f : Nat) : Int) 8 = ((a + f + 8 : Nat) : Int) := by
  have h0 := u64_or_nat (a + f) 8 (by omega) (by omega)
  have h0 : bits .or .u64 ((a + f : Nat) : Int) 8 = (((a + f) ||| 8 : Nat) : Int) := h0
  rw [h0]
  have e : 2 ^ 4 * (a / 16) = a := by omega
  have h1 : 2 ^ 4 * (a / 16) + f = 2 ^ 4 * (a / 16) ||| f := Nat.two_pow_add_eq_or_of_lt (i := 4) (by omega) (a / 16)
  have h2 : 2 ^ 4 * (a / 16) + (f + 8) = 2 ^ 4 * (a / 16) ||| (f + 8) := Nat.two_pow_add_eq_or_of_lt (i := 4) (by omega) (a / 16)
  rw [e] at h1 h2
  have h3 : (a + f) ||| 8 = a ||| (f + 8) := by rw [← or_eight f hf, ← Nat.or_assoc, ← h1]
  rw [h3, ← h2]
  omega
/-- where a table is named -/
def slotT (s : Bst) (y : Nat × Nat) : Nat := if y.1 = 1 then y.2 else T1 s.A s.B (y.2 / 512) * 512 + y.2 % 512
/-- where a leaf stands -/
def slotL (s : Bst) (u : Un) : Nat := if u.big = true then T1 s.A s.B (u.v / 1073741824) * 512 + u.v / 2097152 % 512 else T2 s.A s.B (u.v / 2097152) * 512 + u.v / 4096 % 512
/-- what is laid so far: nothing but what the tables hold; the tables up to a number are named, these leaves stand -/
structure Ly (ts : List (Nat × Nat)) (s : Bst) (i : Nat) (D : List Un) (E : Nat → Nat) : Prop where
  no : ∀ p, E p = 0 ∨ E p = s.M p
  tab : ∀ j y, 1 ≤ j → j < i → ts[j]? = some y → E (slotT s y) = s.M (slotT s y)
  lf : ∀ u ∈ D, E (slotL s u) = s.M (slotL s u)
theorem putM_or {M E : Nat → Nat} {p q v : Nat} (hv : v = M p) (h : E q = 0 ∨ E q = M q) : putM E p v q = 0 ∨ putM E p v q = M q := by
  by_cases e : q = p
  · subst e
    rw [putM_at]
    exact .inr hv
  · rw [putM_ne _ e]
    exact h
theorem putM_is {M E : Nat → Nat} {p q v : Nat} (hv : v = M p) (h : E q = M q) : putM E p v q = M q := by
  by_cases e : q = p
  · subst e
    rw [putM_at]
    exact hv
  · rw [putM_ne _ e]
    exact h
theorem Ly.start (ts : List (Nat × Nat)) (s : Bst) : Ly ts s 1 [] (fun _ => 0) := ⟨fun _ => .inl rfl, fun j y h1 h2 => by omega, fun u h => by cases h⟩
theorem Ly.table {ts : List (Nat × Nat)} {s : Bst} {i : Nat} {D : List Un} {E : Nat → Nat} (h : Ly ts s i D E) {y : Nat × Nat} (hy : ts[i]? = some y) {p v : Nat} (hp : p = slotT s y) (hv : v = s.M (slotT s y)) : Ly ts s (i + 1) D (putM E p v) := by
  subst hp
  refine ⟨fun q => putM_or hv (h.no q), fun j z h1 h2 hz => ?_, fun u hu => putM_is hv (h.lf u hu)⟩
  by_cases e : j = i
  · subst e
    rw [hy] at hz
    cases hz
    rw [putM_at]
    exact hv
  · exact putM_is hv (h.tab j z h1 (by omega) hz)
theorem Ly.leaf {ts : List (Nat × Nat)} {s : Bst} {i : Nat} {D : List Un} {E : Nat → Nat} (h : Ly ts s i D E) {u : Un} {p v : Nat} (hp : p = slotL s u) (hv : v = s.M (slotL s u)) : Ly ts s i (D ++ [u]) (putM E p v) := by
  subst hp
  refine ⟨fun q => putM_or hv (h.no q), fun j z h1 h2 hz => putM_is hv (h.tab j z h1 h2 hz), fun x hx => ?_⟩
  rcases List.mem_append.1 hx with hx | hx
  · exact putM_is hv (h.lf x hx)
  · rw [List.mem_singleton.1 hx, putM_at]
    exact hv
/-- what the slots hold -/
theorem slot_tab {base : Nat} {s : Bst} {ts : List (Nat × Nat)} (hc : Cl base s) (hr : Rt ts s) {i lv kk : Nat} (hi : 1 ≤ i) (hy : ts[i]? = some (lv, kk)) : s.M (slotT s (lv, kk)) = base + i * 4096 + 1 := by
  rcases hr.mem i lv kk hy with ⟨h0, _⟩ | ⟨h0, hA, hI⟩ | ⟨h0, hB, hI⟩
  · omega
  · subst h0
    have hk5 : kk < 512 := Nat.lt_of_lt_of_le (hc.hA kk hA) hc.n0
    show s.M kk = _
    rw [hc.c0 kk hk5, hA, cond_true, hI]
  · subst h0
    show s.M (T1 s.A s.B (kk / 512) * 512 + kk % 512) = _
    rw [hc.c1 _ (hc.BA kk hB) (kk % 512) (Nat.mod_lt _ (by decide)), show kk / 512 * 512 + kk % 512 = kk by omega, hB, cond_true, hI]
theorem slot_leaf {base : Nat} {s : Bst} {us : List Un} (hc : Cl base s) (hk : Kn us s) {u : Un} (hu : u ∈ us) : s.M (slotL s u) = u.val := by
  obtain ⟨hA, hB⟩ := hk.has hc u hu
  unfold slotL
  cases hb : u.big with
  | true =>
    rw [if_pos rfl, hc.c1 _ hA (u.v / 2097152 % 512) (Nat.mod_lt _ (by decide)), show u.v / 1073741824 * 512 + u.v / 2097152 % 512 = u.v / 2097152 by omega]
    rw [hk.nb _ (by rw [hk.b1 u hu hb]; exact val_pos u), cond_false]
    exact hk.b1 u hu hb
  | false =>
    rw [if_neg (by decide), hc.c2 _ (hB hb) (u.v / 4096 % 512) (Nat.mod_lt _ (by decide)), show u.v / 2097152 * 512 + u.v / 4096 % 512 = u.v / 4096 by omega]
    exact hk.s1 u hu hb
theorem Ly.full {base k : Nat} {s : Bst} {ts : List (Nat × Nat)} {us : List Un} {E : Nat → Nat} (hc : Cl base s) (hk : Kn us s) (hr : Rt ts s) (hl : ts.length = k) (h : Ly ts s k us E) : ∀ p, p < k * 512 → E p = s.M p := by
  intro p hp
  rcases h.no p with e0 | e0
  · by_cases hz : s.M p = 0
    · rw [e0, hz]
    · obtain ⟨t, ht⟩ : ∃ t, p / 512 = t := ⟨_, rfl⟩
      obtain ⟨r, hr'⟩ : ∃ r, p % 512 = r := ⟨_, rfl⟩
      have hpe : p = t * 512 + r := by omega
      have htl : t < ts.length := by omega
      have hr5 : r < 512 := by omega
      obtain ⟨⟨lv, kk⟩, hy⟩ : ∃ y, ts[t]? = some y := ⟨_, List.getElem?_eq_getElem htl⟩
      have hslot : ∀ y j, ts[j]? = some y → 1 ≤ j → slotT s y = p → E p = s.M p := fun y j h1 h2 h3 => by
        rw [← h3]
        exact h.tab j y h2 (by rw [← hl]; exact (List.getElem?_eq_some_iff.1 h1).1) h1
      rcases hr.mem t lv kk hy with ⟨h0, _⟩ | ⟨h0, hA, hI⟩ | ⟨h0, hB, hI⟩
      · have hpr : p = r := by omega
        have hM := hc.c0 r hr5
        rw [← hpr] at hM
        cases hA : s.A p with
        | true =>
          refine hslot (1, p) _ (hr.A p hA) ?_ rfl
          unfold T1
          omega
        | false =>
          rw [hA, cond_false] at hM
          exact absurd hM hz
      · have hM := hc.c1 kk hA r hr5
        rw [← hI, ← hpe] at hM
        cases hB : s.B (kk * 512 + r) with
        | true =>
          refine hslot (2, kk * 512 + r) _ (hr.B _ hB) (by unfold T2; omega) ?_
          show T1 s.A s.B ((kk * 512 + r) / 512) * 512 + (kk * 512 + r) % 512 = p
          rw [show (kk * 512 + r) / 512 = kk by omega, show (kk * 512 + r) % 512 = r by omega, ← hI]
          exact hpe.symm
        | false =>
          rw [hB, cond_false] at hM
          obtain ⟨u, hu, hb, hv, _⟩ := hk.b2 (kk * 512 + r) (by rw [← hM]; exact hz)
          have e : slotL s u = p := by
            unfold slotL
            rw [if_pos hb, show u.v / 1073741824 = kk by omega, hv, show (kk * 512 + r) % 512 = r by omega, ← hI]
            exact hpe.symm
          rw [← e]
          exact h.lf u hu
      · have hM := hc.c2 kk hB r hr5
        rw [← hI, ← hpe] at hM
        obtain ⟨u, hu, hb, hv, _⟩ := hk.s2 (kk * 512 + r) (by rw [← hM]; exact hz)
        have e : slotL s u = p := by
          unfold slotL
          rw [if_neg (by rw [hb]; decide), show u.v / 2097152 = kk by omega, hv, show (kk * 512 + r) % 512 = r by omega, ← hI]
          exact hpe.symm
        rw [← e]
        exact h.lf u hu
  · exact e0
/-- a row of tables, with what they hold -/
def cellsM (n : Nat) (E : Nat → Nat) : List Value := (List.range (n * 512)).map fun p => Value.int .u64 (E p : Int)
theorem cellsM_succ (n : Nat) (E : Nat → Nat) : cellsM (n + 1) E = cellsM n E ++ (tabV fun j => E (n * 512 + j)).toList := by
  unfold cellsM tabV
  rw [Nat.add_mul, Nat.one_mul, List.range_add, List.map_append, List.map_map]
  rfl
def OwnTm (w : World) (base : Nat) (v : Value) (n : Nat) (E : Nat → Nat) : Prop := w.ownsRow base 40 512 v n (cellsM n E)
theorem OwnTm.nil (w : World) (base : Nat) (E : Nat → Nat) : OwnTm w base (.slice none 0 0) 0 E := ⟨rfl, .inl ⟨rfl, rfl⟩⟩
theorem OwnTm.lt {w : World} {base : Nat} {v : Value} {n : Nat} {E : Nat → Nat} (h : OwnTm w base v n E) : ∀ k, v.ownBlock = some k → base ≤ k ∧ k < w.heap.size := World.ownsRow.lt h
theorem OwnTm.keeps {S : Nat → Prop} {w w' : World} {base : Nat} {v : Value} {n : Nat} {E : Nat → Nat} (h : OwnTm w base v n E) (hk : Keeps S w w') (hn : ∀ k, v.ownBlock = some k → ¬ S k) : OwnTm w' base v n E := by
  refine ⟨h.1, ?_⟩
  rcases h.2 with hv | ⟨g, cap, cur, rfl, hb', hgg, rest⟩
  · exact .inl hv
  · exact .inr ⟨g, cap, cur, rfl, hb', (hk.block g (Array.getElem?_eq_some_iff.1 hgg).1 (hn g rfl)).trans hgg, rest⟩
theorem OwnTm.below {w w' : World} {base : Nat} {v : Value} {n : Nat} {E : Nat → Nat} (h : OwnTm w base v n E) (hb : Below w.heap.size w w') : OwnTm w' base v n E := h.keeps (Keeps.of_below (S := fun _ => False) hb) (fun _ _ e => e)
theorem OwnTm.form {w : World} {base : Nat} {v : Value} {n : Nat} {E : Nat → Nat} (h : OwnTm w base v n E) : ∃ a c, v = .slice a n c := by
  rcases h.2 with ⟨rfl, h0⟩ | ⟨g, cap, cur, rfl, _⟩
  · exact ⟨none, 0, by rw [h0]⟩
  · exact ⟨_, _, rfl⟩
theorem OwnTm.base {w : World} {b b' : Nat} {v : Value} {n : Nat} {E : Nat → Nat} (h : OwnTm w b v n E) (hb : b' ≤ b) : OwnTm w b' v n E := by
  refine ⟨h.1, ?_⟩
  rcases h.2 with hv | ⟨g, cap, cur, e, hbb, rest⟩
  · exact .inl hv
  · exact .inr ⟨g, cap, cur, e, Nat.le_trans hb hbb, rest⟩
theorem OwnTm.congr {w : World} {base : Nat} {v : Value} {n : Nat} {E F : Nat → Nat} (h : OwnTm w base v n E) (he : ∀ p, p < n * 512 → E p = F p) : OwnTm w base v n F := by
  have e : cellsM n E = cellsM n F := List.map_congr_left (fun p hp => by rw [he p (List.mem_range.1 hp)])
  unfold OwnTm at h ⊢
  rw [← e]
  exact h
theorem wpList_appendTm {w : World} {base : Nat} {ops : Array Oper} {rest : List Oper} {o : Oper} {a : Act} {Q : Exit → Act → World → Prop} (hgd : o.guard = none) (s x : Operand)
    (ho : o.op = .call { callee := .builtin .append, args := #[s, x], argTypes := #[48, 48] }) {v : Value} {n : Nat} {E : Nat → Nat} {q : Array Value} (hq : q = tabV fun j => E (n * 512 + j)) {g cap : Nat} (hown : OwnTm w base v n E) (hs : a.eval s = v) (hx : a.eval x = .slice (some ⟨g, 0, none⟩) 1 cap) (hg : w.heap[g]? = some (.cells q 40 (0, 0))) (hb : n ≤ 2000) (hbase : base ≤ w.heap.size)
    (h : ∀ v' w', Hid (OwnTm w' base v' (n + 1) E) → Hid (w.grownBy w' v.ownBlock) → wpList Try.prog ops Q rest (a.put o.dst v') w') : wpList Try.prog ops Q (o :: rest) a w :=
  wpList_plain hgd fun K hK => by
    have hinfo := info_tab
    have hZs := tabV_size (fun _ => 0)
    generalize tabV (fun _ => 0) = Z at hinfo hZs
    have hqs : q.size = 512 := by rw [hq]; exact tabV_size _
    have HCs : Hid (cellsM (n + 1) E = cellsM n E ++ q.toList) := by rw [hq]; exact Lib.hid (cellsM_succ n E)
    have hq1 : ∀ u ∈ q.toList, u.oneCell' = true := by
      intro u hu
      have := tabV_one (fun j => E (n * 512 + j))
      rw [← hq, Array.all_eq_true'] at this
      exact this u (Array.mem_toList_iff.1 hu)
    clear hq
    obtain ⟨i, hi, hz0, hz1, hz2⟩ := info_parts hinfo
    obtain ⟨v', w', r1, r2, r3, _, r5⟩ := run_append_own_at (P := Try.prog) w base 48 o.type 40 i (.agg Z) 512 4096 Try.underlying48 hi hz0 hz1 hz2 hZs (by omega) v n (cellsM n E) hown ⟨g, 0, none⟩ 1 cap q.toList (by rw [Array.length_toList, hqs]) (fun j u hj => by
      rw [Addr.add_lit, Nat.zero_add, cell_of_row _ _ _ _ _ _ hg, ← Array.getElem?_toList]
      exact hj) hq1 (by unfold maxLen; omega) (by omega) hbase
    unfold Oper.wp execOp
    simp only [ho, resolve, invoke, builtin, Sem.run_bind, Sem.run_pure, Result.andThen_ok, List.map_toArray, List.map_cons, List.map_nil, hs, hx, r1]
    exact hK _ _ (h v' w' (by show World.ownsRow _ _ _ _ _ _ _; rw [HCs.out]; exact r2) r3)
end Go.Proofs.Ytgjamnhepbblhaa
