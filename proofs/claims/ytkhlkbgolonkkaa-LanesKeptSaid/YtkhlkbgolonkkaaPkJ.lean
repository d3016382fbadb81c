import Derived.Test.YtkhlkbgolonkkaaPkE
import Derived.Test.YtkhlkbgolonkkaaLnGreat
import Derived.BigQuiet
import Derived.Deep.DeepCutAuto
import Derived.Test.YtkhlkbgolonkkaaLnFlt
import Derived.Deep.RegionHeld3
/- Lanes: the document's own ticks (plain mathematics). Own work. -/
namespace Go.Proofs.Ytkhlkbgolonkkaa
set_option linter.unusedVariables false
/-- a row of slots, made tick by tick -/
noncomputable def tickR (xs : List R4) (T : Nat → Option Nat) : Nat → List S3
  | 0 => []
  | t + 1 => adds (tickR xs T t) (subj xs (T t)) 1
theorem tickR_end (xs : List R4) (T : Nat → Option Nat) : ∀ t, endF (tickR xs T t) = (t : Int)
  | 0 => rfl
  | t + 1 => by
    show endF (adds (tickR xs T t) (subj xs (T t)) 1) = _
    rw [adds_end, tickR_end xs T t]
    rfl
theorem tickR_len (xs : List R4) (T : Nat → Option Nat) : ∀ t, (tickR xs T t).length ≤ t
  | 0 => Nat.le_refl _
  | t + 1 => by
    have h1 := tickR_len xs T t
    have h2 := adds_len (tickR xs T t) (subj xs (T t)) 1
    show (adds (tickR xs T t) (subj xs (T t)) 1).length ≤ _
    omega
theorem tickR_gd (xs : List R4) (T : Nat → Option Nat) : ∀ t, Gd 0 none (tickR xs T t) ∧ ∀ s : Nat, s < t → (findS (s : Int) (tickR xs T t)).1 = subj xs (T s)
  | 0 => ⟨trivial, fun s h => by omega⟩
  | t + 1 => by
    obtain ⟨h1, h2⟩ := tickR_gd xs T t
    have he := tickR_end xs T t
    obtain ⟨g1, g2, g3⟩ := adds_gd (s := subj xs (T t)) (n := 1) h1 (by omega)
    refine ⟨g1, fun s hs => ?_⟩
    by_cases e : s = t
    · subst e
      exact g3 _ (by omega) (by omega)
    · rw [← h2 s (by omega)]
      exact g2 _ (by omega) (by omega)
theorem tickR_is {xs : List R4} {T : Nat → Option Nat} {m : Nat} {rs : List S3} (hg : Gd 0 none rs) (he : endF rs = (m : Int)) (hw : ∀ t : Nat, t < m → (findS (t : Int) rs).1 = subj xs (T t)) : rs = tickR xs T m := by
  refine gd_uniq rs _ 0 none hg (tickR_gd xs T m).1 (by rw [endE_endF, endE_endF, he, tickR_end]) fun t h0 h1 => ?_
  rw [endE_endF, he] at h1
  obtain ⟨n, rfl⟩ : ∃ n : Nat, t = (n : Int) := ⟨t.toNat, by omega⟩
  rw [hw n (by omega), (tickR_gd xs T m).2 n (by omega)]
/-- of runs in turn: who runs -/
def whoR : List R4 → Nat → Nat → Option Nat
  | [], _, _ => none
  | x :: r, i, t => if t < x.b then some i else whoR r (i + 1) (t - x.b)
theorem whoR_at : ∀ (xs : List R4) (i0 i t : Nat), i < xs.length → sumN (xs.take i) ≤ t → t < sumN (xs.take (i + 1)) → whoR xs i0 t = some (i0 + i)
  | x :: r, i0, 0, t, _, h1, h2 => by
    have h2 : t < x.b := by simpa [sumN] using h2
    show (if t < x.b then some i0 else whoR r (i0 + 1) (t - x.b)) = _
    rw [if_pos h2]
    rfl
  | x :: r, i0, i + 1, t, h, h1, h2 => by
    have h1 : x.b + sumN (r.take i) ≤ t := by simpa [sumN] using h1
    have h2 : t < x.b + sumN (r.take (i + 1)) := by simpa [sumN] using h2
    show (if t < x.b then some i0 else whoR r (i0 + 1) (t - x.b)) = _
    rw [if_neg (by omega), whoR_at r (i0 + 1) i (t - x.b) (by simpa using h) (by omega) (by omega)]
    congr 1
    omega
theorem whoR_none : ∀ (xs : List R4) (i0 t : Nat), sumN xs ≤ t → whoR xs i0 t = none
  | [], _, _, _ => rfl
  | x :: r, i0, t, h => by
    have h : x.b + sumN r ≤ t := by simpa [sumN] using h
    show (if t < x.b then some i0 else whoR r (i0 + 1) (t - x.b)) = _
    rw [if_neg (by omega), whoR_none r (i0 + 1) (t - x.b) (by omega)]
theorem ex_run : ∀ (xs : List R4) (t : Nat), t < sumN xs → ∃ i, i < xs.length ∧ sumN (xs.take i) ≤ t ∧ t < sumN (xs.take (i + 1))
  | [], t, h => by simp [sumN] at h
  | x :: r, t, h => by
    have h : t < x.b + sumN r := by simpa [sumN] using h
    by_cases h1 : t < x.b
    · exact ⟨0, by simp, by simp [sumN], by simpa [sumN] using h1⟩
    · obtain ⟨i, a1, a2, a3⟩ := ex_run r (t - x.b) (by omega)
      refine ⟨i + 1, by simpa using a1, ?_, ?_⟩
      · simp only [List.take_succ_cons, sumN]
        omega
      · simp only [List.take_succ_cons, sumN]
        omega
/-- the package's row of runs is the document's -/
theorem runs_row {m : Nat} {xs : List R4} (hs : sumN xs ≤ m) (hm : 0 < m) : madeF m xs = tickR xs (whoR xs 0) m := by
  have e0 : endF [] = 0 := rfl
  obtain ⟨k1, _, _⟩ := turn_all xs [] trivial (by rw [e0]; omega)
  have ee := turnF_end xs []
  rw [e0] at ee
  obtain ⟨g1, _, _⟩ := adds_gd (s := sN) (n := (m : Int) - (sumN xs : Int)) k1 (by omega)
  have ef := adds_end (turnF [] xs) sN ((m : Int) - (sumN xs : Int))
  obtain ⟨_, f1, f2, _⟩ := made_all hs hm
  refine tickR_is g1 (by show endF (adds (turnF [] xs) sN ((m : Int) - (sumN xs : Int))) = _; omega) fun t ht => ?_
  by_cases h1 : t < sumN xs
  · obtain ⟨i, a1, a2, a3⟩ := ex_run xs t h1
    rw [f1 i a1 (t : Int) (by omega) (by omega), whoR_at xs 0 i t a1 a2 a3, Nat.zero_add, subj_some xs i a1]
  · rw [f2 (t : Int) (by omega) (by omega), whoR_none xs 0 t (by omega)]
    rfl
/-- the package's row of needs is the document's -/
theorem needs_row {m : Nat} {xs : List R4} {ws cs : List J4} {rs : List S3} (J : EdJ m xs ws cs rs) (he : endF rs = (m : Int)) : rs = tickR xs (bestT xs) m :=
  tickR_is J.gd he fun t ht => J.who t (by omega)
/-- the document's ticks -/
def tkL (T : Nat → Option Nat) (n : Nat) : List Int := (List.range n).map fun t => fI (T t)
theorem tkL_len (T : Nat → Option Nat) (n : Nat) : (tkL T n).length = n := by simp [tkL]
theorem tkL_next (T : Nat → Option Nat) (n : Nat) : tkL T (n + 1) = tkL T n ++ [fI (T n)] := by simp [tkL, List.range_succ]
theorem tkL_get (T : Nat → Option Nat) (n t : Nat) (h : t < (tkL T n).length) : (tkL T n)[t] = fI (T t) := by simp [tkL]
/-- what is left, and when it is due, ahead of a tick -/
def Lp (xs : List R4) : Nat → Nat → Nat
  | 0, _ => 0
  | t + 1, j => Lr xs t j - (if bestT xs t = some j then 1 else 0)
def dP (xs : List R4) : Nat → Nat → Nat
  | 0, _ => 0
  | t + 1, j => dueT xs t j
theorem lr_hit {xs : List R4} {t j : Nat} (h : t % pN xs j = 0) : Lr xs t j = bN xs j := by
  cases t with
  | zero => rfl
  | succ t =>
    show (if (t + 1) % pN xs j = 0 then bN xs j else _) = _
    rw [if_pos h]
theorem lr_miss {xs : List R4} {t j : Nat} (h : ¬ t % pN xs j = 0) : Lp xs t j = Lr xs t j := by
  cases t with
  | zero => simp at h
  | succ t =>
    show _ = (if (t + 1) % pN xs j = 0 then bN xs j else Lr xs t j - (if bestT xs t = some j then 1 else 0))
    rw [if_neg h]
    rfl
theorem due_hit {xs : List R4} {t j : Nat} (h : t % pN xs j = 0) : dueT xs t j = t + pN xs j := by
  unfold dueT
  rw [Nat.add_mul, Nat.one_mul]
  have := Nat.div_add_mod t (pN xs j)
  rw [Nat.mul_comm (t / pN xs j)]
  omega
theorem due_miss {xs : List R4} {t j : Nat} (hp : 1 ≤ pN xs j) (h : ¬ t % pN xs j = 0) : dP xs t j = dueT xs t j := by
  cases t with
  | zero => simp at h
  | succ t =>
    show (t / pN xs j + 1) * pN xs j = ((t + 1) / pN xs j + 1) * pN xs j
    rw [Nat.succ_div, if_neg (fun hd => h (Nat.mod_eq_zero_of_dvd hd))]
/-- a row that is being gone through -/
def gW (f g : Nat → Nat) (n i : Nat) : List Nat := (List.range n).map fun j => if j < i then f j else g j
theorem gW_len (f g : Nat → Nat) (n i : Nat) : (gW f g n i).length = n := by simp [gW]
theorem gW_get {f g : Nat → Nat} {n i j : Nat} (h : j < (gW f g n i).length) : (gW f g n i)[j] = if j < i then f j else g j := by simp [gW]
theorem gW_set (f g : Nat → Nat) (n i : Nat) : (gW f g n i).set i (f i) = gW f g n (i + 1) := by
  refine List.ext_getElem (by simp [gW_len]) fun j h1 h2 => ?_
  rw [List.getElem_set, gW_get, gW_get]
  by_cases e : i = j
  · subst e
    rw [if_pos rfl, if_pos (by omega)]
  · rw [if_neg e]
    by_cases hj : j < i
    · rw [if_pos hj, if_pos (by omega)]
    · rw [if_neg hj, if_neg (by omega)]
theorem gW_same {f g : Nat → Nat} {n i : Nat} (h : g i = f i) : gW f g n (i + 1) = gW f g n i := by
  refine List.ext_getElem (by simp [gW_len]) fun j h1 h2 => ?_
  rw [gW_get, gW_get]
  by_cases e : j = i
  · subst e
    rw [if_pos (by omega), if_neg (by omega), h]
  · by_cases hj : j < i
    · rw [if_pos hj, if_pos (by omega)]
    · rw [if_neg hj, if_neg (by omega)]
theorem gW_turn {f g f' g' : Nat → Nat} {n : Nat} (h : ∀ j, j < n → f j = g' j) : gW f g n n = gW f' g' n 0 := by
  refine List.ext_getElem (by simp [gW_len]) fun j h1 h2 => ?_
  rw [gW_len] at h1
  rw [gW_get, gW_get, if_pos h1, if_neg (by omega), h j h1]
theorem gW_turnS {f g f' g' : Nat → Nat} {n i x : Nat} (hx : g' i = x) (h : ∀ j, j < n → j ≠ i → f j = g' j) : (gW f g n n).set i x = gW f' g' n 0 := by
  refine List.ext_getElem (by simp [gW_len]) fun j h1 h2 => ?_
  rw [List.length_set, gW_len] at h1
  rw [List.getElem_set, gW_get, gW_get, if_neg (by omega : ¬ j < 0)]
  by_cases e : i = j
  · subst e
    rw [if_pos rfl, hx]
  · rw [if_neg e, if_pos h1, h j h1 (fun e' => e e'.symm)]
theorem lp_none {xs : List R4} {t : Nat} (h : bestT xs t = none) (j : Nat) : Lr xs t j = Lp xs (t + 1) j := by
  show _ = Lr xs t j - (if bestT xs t = some j then 1 else 0)
  rw [if_neg (by rw [h]; simp)]
  rfl
theorem lp_some {xs : List R4} {t i : Nat} (h : bestT xs t = some i) : Lp xs (t + 1) i = Lr xs t i - 1 ∧ ∀ j, j ≠ i → Lr xs t j = Lp xs (t + 1) j := by
  refine ⟨?_, fun j hj => ?_⟩
  · show Lr xs t i - (if bestT xs t = some i then 1 else 0) = _
    rw [if_pos h]
  · show _ = Lr xs t j - (if bestT xs t = some j then 1 else 0)
    rw [if_neg (by rw [h]; simp; exact fun e => hj e.symm)]
    rfl
theorem lp_zero (xs : List R4) (n : Nat) : gW (Lr xs 0) (Lp xs 0) n 0 = List.replicate n 0 := by
  refine List.eq_replicate_iff.2 ⟨gW_len _ _ _ _, fun b hb => ?_⟩
  obtain ⟨j, _, rfl⟩ := List.mem_map.1 hb
  rw [if_neg (Nat.not_lt_zero j)]
  rfl
theorem dp_zero (xs : List R4) (n : Nat) : gW (dueT xs 0) (dP xs 0) n 0 = List.replicate n 0 := by
  refine List.eq_replicate_iff.2 ⟨gW_len _ _ _ _, fun b hb => ?_⟩
  obtain ⟨j, _, rfl⟩ := List.mem_map.1 hb
  rw [if_neg (Nat.not_lt_zero j)]
  rfl
end Go.Proofs.Ytkhlkbgolonkkaa
/- Lanes: the document's ticks in memory; Ticks of runs. Own work. -/
namespace Go.Proofs.Ytkhlkbgolonkkaa
open Go.RowKit
set_option linter.unusedVariables false
theorem bdk {B : Nat} {a w : World} (h : Below B a w) (n : Nat) : Below B a (w.drewN n) := h.trans ⟨rfl, rfl, rfl, Nat.le_refl _, fun _ _ => rfl⟩
/-- a row of numbers of int -/
def jv (l : List Nat) : List Value := l.map fun (n : Nat) => Value.int .i64 (n : Int)
theorem jv_len (l : List Nat) : (jv l).length = l.length := by simp [jv]
theorem jv_get (l : List Nat) (j : Nat) (h : j < l.length) : (jv l)[j]'(by rw [jv_len]; exact h) = Value.int .i64 (l[j] : Int) := by simp [jv]
theorem jv_set (l : List Nat) (j n : Nat) : (jv l).set j (.int .i64 (n : Int)) = jv (l.set j n) := by
  unfold jv
  rw [List.map_set]
def Di (w : World) (g N : Nat) (l : List Nat) : Prop := l.length = N ∧ OwnV w g 3 (.slice (some ⟨g, 0, none⟩) N N) (jv l)
theorem Di.cell {w : World} {g N : Nat} {l : List Nat} (h : Di w g N l) (j : Nat) (hj : j < l.length) : w.cell? ⟨g, j, none⟩ = some (.int .i64 (l[j] : Int)) := by
  have h5 := h.2
  rw [← h.1, ← jv_len l] at h5
  rw [h5.cell j (by rw [jv_len]; exact hj), jv_get l j hj]
theorem Di.thawed {w : World} {g N : Nat} {l : List Nat} (h : Di w g N l) (j : Nat) : w.frozen? ⟨g, j, none⟩ = false := by
  have h5 := h.2
  rw [← h.1, ← jv_len l] at h5
  exact h5.thawed j
theorem Di.lt {w : World} {g N : Nat} {l : List Nat} (h : Di w g N l) : g < w.heap.size := (h.2.lt g rfl).2
theorem Di.below {w w' : World} {g N : Nat} {l : List Nat} (h : Di w g N l) (hb : Below w.heap.size w w') : Di w' g N l := ⟨h.1, h.2.below hb⟩
theorem Di.keeps {S : Nat → Prop} {w w' : World} {g N : Nat} {l : List Nat} (h : Di w g N l) (hk : Keeps S w w') (hn : ¬ S g) : Di w' g N l := ⟨h.1, h.2.keeps hk (fun k e => by cases e; exact hn)⟩
theorem Di.set {w : World} {g N : Nat} {l : List Nat} (h : Di w g N l) (j x : Nat) : Di (w.setCell ⟨g, j, none⟩ (.int .i64 (x : Int))) g N (l.set j x) := by
  refine ⟨by rw [List.length_set]; exact h.1, ?_⟩
  have h5 := h.2
  have e : (jv l).length = N := by rw [jv_len]; exact h.1
  rw [← e] at h5
  have h6 := h5.set j (.int .i64 (x : Int))
  rw [jv_set, e] at h6
  exact h6
theorem madeJ {w : World} {base g n : Nat} (hb : g ≤ base) (h : w.ownsRow base 3 1 (.slice (some ⟨g, 0, none⟩) n n) n (madeCells #[Value.int .i64 0] n).toList) : Di w g n (List.replicate n 0) := by
  refine ⟨List.length_replicate, ?_⟩
  unfold OwnV
  rw [jv_len, List.length_replicate]
  have e : (madeCells #[Value.int .i64 0] n).toList = jv (List.replicate n 0) := by
    apply List.ext_getElem?
    intro j
    by_cases hj : j < n
    · have hj' : j < (madeCells #[Value.int .i64 0] n).size := by rw [size_madeCells]; omega
      rw [Array.getElem?_toList, Array.getElem?_eq_getElem hj', List.getElem?_eq_getElem (by rw [jv_len, List.length_replicate]; exact hj)]
      simp [madeCells, jv, Nat.mod_one]
    · rw [List.getElem?_eq_none (by rw [Array.length_toList, size_madeCells]; omega), List.getElem?_eq_none (by rw [jv_len, List.length_replicate]; omega)]
  rw [← e]
  refine ⟨h.1, ?_⟩
  rcases h.2 with hv | ⟨g', cap, cur, ev, hb', rest⟩
  · exact .inl hv
  · exact .inr ⟨g', cap, cur, ev, Nat.le_trans hb hb', rest⟩
/-- the row of ticks -/
def Tk (w : World) (g m : Nat) (l : List Int) : Prop := w.ownsRow g 3 1 (.slice (some ⟨g, 0, none⟩) l.length m) l.length (l.map (Value.int .i64))
theorem Tk.lt {w : World} {g m : Nat} {l : List Int} (h : Tk w g m l) : g < w.heap.size := (World.ownsRow.lt h g rfl).2
theorem Tk.keeps {S : Nat → Prop} {w w' : World} {g m : Nat} {l : List Int} (h : Tk w g m l) (hk : Keeps S w w') (hn : ¬ S g) : Tk w' g m l := by
  refine ⟨h.1, ?_⟩
  rcases h.2 with hv | ⟨g', cap, cur, ev, hb, hgg, rest⟩
  · exact .inl hv
  · cases ev
    refine .inr ⟨g, m, cur, rfl, hb, ?_, rest⟩
    rw [hk.block g (Array.getElem?_eq_some_iff.1 hgg).1 hn]
    exact hgg
theorem Tk.below {w w' : World} {g m : Nat} {l : List Int} (h : Tk w g m l) (hb : Below w.heap.size w w') : Tk w' g m l := h.keeps (Keeps.of_below (S := fun _ => False) hb) id
theorem Tk.cell {w : World} {g m : Nat} {l : List Int} (h : Tk w g m l) (j : Nat) (hj : j < l.length) : w.cell? ⟨g, j, none⟩ = some (.int .i64 l[j]) := by
  rw [World.ownsRow.cellAt h j (by omega), List.getElem?_eq_getElem (by simpa using hj)]
  simp
theorem wpList_tick {w : World} {ops : Array Oper} {rest : List Oper} {o : Oper} {a : Act} {Q : Exit → Act → World → Prop} (hgd : o.guard = none) (s x : Operand)
    (ho : o.op = .call { callee := .builtin .append, args := #[s, x], argTypes := #[73, 73] }) {g m u : Nat} {l : List Int} {n : Int} {b c : Nat} (h : Tk w g m l) (hu : l.length = u) (hs : a.eval s = .slice (some ⟨g, 0, none⟩) u m) (hx : a.eval x = .slice (some ⟨b, 0, none⟩) 1 c) (hb : w.cell? ⟨b, 0, none⟩ = some (.int .i64 n)) (hl : u < m)
    (K : ∀ w', Hid (Tk w' g m (l ++ [n])) → Hid (w.grownBy w' (some g)) → wpList Try.prog ops Q rest (a.put o.dst (.slice (some ⟨g, 0, none⟩) (u + 1) m)) w') : wpList Try.prog ops Q (o :: rest) a w := by
  obtain ⟨i, hi, hz0, hz1, hz2⟩ := info_parts info_int
  subst hu
  refine wpList_append_fits w hgd s x 73 ho g 3 i 1 Try.underlying73 hi hz1 g l.length m (l.map (Value.int .i64)) hs h ⟨b, 0, none⟩ 1 c [.int .i64 n] hx rfl (fun j u hj => ?_) (fun u hu => by obtain rfl := List.mem_singleton.1 hu; rfl) (by omega) (fun w' r1 r2 => K w' ?_ r2)
  · rw [Addr.add_lit, Nat.zero_add]
    match j, hj with
    | 0, hj => rw [hb]; exact hj
  · show Tk _ _ _ _
    unfold Tk
    rw [List.length_append, List.length_singleton, List.map_append]
    exact r1
def lenOf : Value → Nat
  | .slice _ n _ => n
  | _ => 0
/-- a lane that was handed in, in its box -/
structure Lx (w wr : World) (lane : Array Value) (v : Value) (xs : List R4) : Prop where
  below : Below w.heap.size w wr
  lb : wr.heap[w.heap.size]? = some (.cells lane 25 (0, 0))
  rn : Rn wr v xs
theorem Lx.go {w wr w' : World} {lane : Array Value} {v : Value} {xs : List R4} (h : Lx w wr lane v xs) (hb : Below wr.heap.size wr w') : Lx w w' lane v xs :=
  ⟨h.below.trans (hb.mono h.below.size), (hb.block _ (Array.getElem?_eq_some_iff.1 h.lb).1).trans h.lb, h.rn.below hb⟩
theorem Lx.start {w : World} {lane : Array Value} {v : Value} {xs : List R4} (h : Rn w v xs) : Lx w (w.alloc (.cells lane 25)) lane v xs :=
  ⟨(Below.refl _ _).alloc (Nat.le_refl _) _, Array.getElem?_push_size (xs := w.heap), h.below ((Below.refl _ _).alloc (Nat.le_refl _) _)⟩
set_option maxRecDepth 100000 in
set_option maxHeartbeats 4000000 in
theorem ticks_runs {w : World} {v : Value} {xs : List R4} {m : Nat} {q cp : Int} (h : Rn w v xs) (hm : m ≤ 65536) (hs : sumN xs ≤ m) : Calls Try.prog 30 #[.int .i64 (m : Int), .agg #[.int .i64 q, .int .u64 cp, .bool false, v]] w fun e w' => ∃ g, e = .returned (.slice (some ⟨g, 0, none⟩) m m) ∧ Tk w' g m (tkL (whoR xs 0) m) ∧ w.heap.size ≤ g ∧ Below w.heap.size w w' := by
  have HLx0 := Lib.hid (Lx.start (lane := #[.int .i64 q, .int .u64 cp, .bool false, v]) h)
  obtain ⟨ao, cap, rfl, h1, h2, h3, h4⟩ := h
  clear h3 h4
  unfold maxLen at h2
  obtain ⟨n, hn⟩ : ∃ n, xs.length = n := ⟨_, rfl⟩
  have HN := Lib.hid hn
  rw [hn] at h1 HLx0 ⊢
  have HM : Hid (m ≤ 65536 ∧ sumN xs ≤ m) := ⟨hm, hs⟩
  have x2 : (w.alloc (.cells #[.int .i64 q, .int .u64 cp, .bool false, .slice ao n cap] 25)).cell? ⟨w.heap.size, 2, none⟩ = some (.bool false) := by rw [cell_of_row _ _ _ _ _ _ HLx0.out.lb]; rfl
  obtain ⟨ii, hii, hz0, hz1, hz2⟩ := info_parts info_int
  clear hn hs
  go_enter Try.func30, Try.ntmps30
  go_wp2_with (at_make; refine wpList_make_own _ rfl _ _ 73 rfl (w.heap.size + 1) 3 ii (.int .i64 0) 1 Try.underlying73 hii hz0 hz1 _ _ _ m rfl rfl rfl (by rw [hz2]; omega) (by simp only [maxLen]; omega) (by simp) ?_)
  intro w1 hown hgrow
  have hb1 : Below (w.heap.size + 1) (w.alloc (.cells #[.int .i64 q, .int .u64 cp, .bool false, .slice ao n cap] 25)) w1 := (Below.refl _ _).grown hgrow (by simp) (by simp)
  have HT1 : Hid (Tk w1 (w.heap.size + 1) m (tkL (whoR xs 0) 0)) := hown
  have HB1 := Lib.hid hb1
  have HLx : Hid (∀ W, Below (w.heap.size + 1) (w.alloc (.cells #[.int .i64 q, .int .u64 cp, .bool false, .slice ao n cap] 25)) W → Lx w W #[.int .i64 q, .int .u64 cp, .bool false, .slice ao n cap] (.slice ao n cap) xs) := fun W hW => HLx0.out.go (by rw [show (w.alloc (.cells #[.int .i64 q, .int .u64 cp, .bool false, .slice ao n cap] 25)).heap.size = w.heap.size + 1 by simp]; exact hW)
  have x3 : w1.cell? ⟨w.heap.size, 2, none⟩ = some (.bool false) := by rw [cell_of_row _ _ _ _ _ _ (HLx.out _ hb1).lb]; rfl
  obtain ⟨W0, hW0⟩ : ∃ W0, W0 = w.alloc (.cells #[.int .i64 q, .int .u64 cp, .bool false, .slice ao n cap] 25) := ⟨_, rfl⟩
  rw [← hW0] at HB1 HLx
  have HG : Hid (∀ (W W1 W2 : World) (c : Array Value) (t : TypeId), Below (w.heap.size + 1) W0 W → Tk W (w.heap.size + 1) m [] ∨ True → (W.alloc (.cells c t)).grownBy W2 (some (w.heap.size + 1)) → Below (w.heap.size + 1) W0 W2) := fun W W1 W2 c t hW _ hg => (hW.alloc (by have := hW.size; rw [hW0] at this; simp at this; omega) _).grown hg (by have := hW.size; rw [hW0] at this; simp at this ⊢; omega) (fun k hk => by cases hk; exact Nat.le_refl _)
  clear hown hgrow hb1 hii hz0 hz1 hz2 x2 hW0 HLx0
  go_wp2_with fail
  go_loopw [5, 6] (fun tv iv wr => ∃ i S : Nat, i ≤ n ∧ iv = .int .i64 (i : Int) ∧ tv = .slice (some ⟨w.heap.size + 1, 0, none⟩) S m ∧ Hid (sumN (xs.take i) = S) ∧ Hid (Tk wr (w.heap.size + 1) m (tkL (whoR xs 0) S)) ∧ Hid (Below (w.heap.size + 1) W0 wr)) (fun _ iv _ => n - (intOf iv).toNat)
  case atStart => exact ⟨0, 0, by omega, rfl, rfl, rfl, HT1, HB1⟩
  case round =>
    clear HT1 HB1 x3
    obtain ⟨i, S, hi, rfl, rfl, HS, HT, HB⟩ := hrel
    have hlx := HLx.out wr HB.out
    have y3 : wr.cell? ⟨w.heap.size, 3, none⟩ = some (.slice ao n cap) := by rw [cell_of_row _ _ _ _ _ _ hlx.lb]; rfl
    obtain ⟨wO, hwO⟩ : ∃ wO, wO = wr := ⟨_, rfl⟩
    subst hwO
    by_cases hin : i < n
    · have hix : i < xs.length := by rw [HN.out]; exact hin
      have ji : (i : Int) < (n : Int) := by omega
      have hw1 : IntKind.i64.wrap ((i : Int) + 1) = ((i + 1 : Nat) : Int) := by rw [IntKind.wrap_i64]; omega
      obtain ⟨bi, hbi⟩ : ∃ bi, xs[i].b = bi := ⟨_, rfl⟩
      have HSn : Hid (sumN (xs.take (i + 1)) = S + bi) := by
        show _ = _
        rw [List.take_succ_eq_append_getElem hix, sumN_append, HS.out]
        simp [sumN, hbi]
      have hSm : S + bi ≤ m := by
        have h5 := sumN_take xs (i + 1)
        rw [HSn.out] at h5
        have := HM.out
        omega
      have HWho : Hid (∀ k, k < bi → whoR xs 0 (S + k) = some i) := fun k hk => by
        have h5 := whoR_at xs 0 i (S + k) hix (by rw [HS.out]; omega) (by rw [HSn.out]; omega)
        rw [Nat.zero_add] at h5
        exact h5
      have HBi := Lib.hid hbi
      clear hbi
      go_wp2_with fail
      go_loopw [5, 7] (fun tv kv wr => ∃ k u : Nat, k ≤ bi ∧ kv = .int .i64 (k : Int) ∧ tv = .slice (some ⟨w.heap.size + 1, 0, none⟩) u m ∧ Hid (u = S + k) ∧ Hid (Tk wr (w.heap.size + 1) m (tkL (whoR xs 0) u)) ∧ Hid (Below (w.heap.size + 1) W0 wr)) (fun _ kv _ => bi - (intOf kv).toNat)
      case atStart => exact ⟨0, S, by omega, rfl, rfl, rfl, HT, HB⟩
      case round =>
        clear HT HB y3 hlx
        obtain ⟨k, u, hk, rfl, rfl, HU, HT, HB⟩ := hrel
        have hlx := HLx.out wr HB.out
        have y3 : wr.cell? ⟨w.heap.size, 3, none⟩ = some (.slice ao n cap) := by rw [cell_of_row _ _ _ _ _ _ hlx.lb]; rfl
        obtain ⟨_, _, e', _, _, _, hc⟩ := hlx.rn
        simp only [Value.slice.injEq] at e'
        obtain ⟨rfl, hNn, rfl⟩ := e'
        clear hNn
        obtain ⟨b, of, rfl, c0, c1, c2, c3⟩ := hc i hix
        rw [HBi.out] at c2
        have hbw : IntKind.i64.wrap (bi : Int) = (bi : Int) := by have := HM.out; rw [IntKind.wrap_i64]; omega
        clear hc hlx c0 c1 c3
        by_cases hkb : k < bi
        · have jk : (k : Int) < (bi : Int) := by omega
          have hwk : IntKind.i64.wrap ((k : Int) + 1) = ((k + 1 : Nat) : Int) := by have := HM.out; rw [IntKind.wrap_i64]; omega
          have hum : u < m := by have := HU.out; omega
          have HTa := Lib.hid (HT.out.below ((Below.refl _ _).alloc (Nat.le_refl _) (.cells #[.int .i64 (i : Int)] 3)))
          have HCa : Hid ((wr.alloc (.cells #[.int .i64 (i : Int)] 3)).cell? ⟨wr.heap.size, 0, none⟩ = some (.int .i64 (i : Int))) := by
            show _ = _
            rw [cell_of_row _ _ _ _ _ _ (Array.getElem?_push_size (xs := wr.heap))]
            rfl
          have HTl : Hid ((tkL (whoR xs 0) u).length = u) := tkL_len _ _
          have HTn : Hid (∀ W, Tk W (w.heap.size + 1) m (tkL (whoR xs 0) u ++ [(i : Int)]) → Tk W (w.heap.size + 1) m (tkL (whoR xs 0) (u + 1))) := fun W h => by
            rw [tkL_next, HU.out, HWho.out k hkb]
            rw [HU.out] at h
            exact h
          have HGn := Lib.hid (fun W2 h => HG.out wr wr W2 #[.int .i64 (i : Int)] 3 HB.out (.inr trivial) h)
          go_wp2_with (at_builtin; refine wpList_tick rfl (.tmp 37) (.tmp 39) rfl HTa.out HTl.out rfl rfl HCa.out hum ?_; intro w2 HT2 HG2; have HT3 := Lib.hid (HTn.out _ HT2.out); have HB3 := Lib.hid (HGn.out _ HG2.out); clear HT2 HG2)
          go_roundw
          case rel => exact ⟨k + 1, u + 1, by omega, rfl, rfl, by have := HU.out; show _ = _; omega, HT3, HB3⟩
          case measure => simp [intOf]; omega
        · have jk : ¬ (k : Int) < (bi : Int) := by omega
          have HSe : Hid (sumN (xs.take (i + 1)) = u) := by
            show _ = _
            have := HU.out
            rw [HSn.out]
            omega
          go_wp2_with fail
          go_roundw
          case rel => exact ⟨i + 1, u, by omega, rfl, rfl, HSe, HT, HB⟩
          case measure => simp [intOf]; omega
    · obtain rfl : i = n := by omega
      have ji : ¬ (i : Int) < (i : Int) := by omega
      have HSx : Hid (sumN xs = S) := by
        have h5 := HS.out
        rw [List.take_of_length_le (by rw [HN.out]; exact Nat.le_refl _)] at h5
        exact h5
      have hSm : S ≤ m := by have := HM.out; have := HSx.out; omega
      go_wp2_with fail
      go_loopw [5] (fun tv wr => ∃ u : Nat, S ≤ u ∧ u ≤ m ∧ tv = .slice (some ⟨w.heap.size + 1, 0, none⟩) u m ∧ Hid (Tk wr (w.heap.size + 1) m (tkL (whoR xs 0) u)) ∧ Hid (Below (w.heap.size + 1) W0 wr)) (fun tv _ => m - lenOf tv)
      case atStart => exact ⟨S, by omega, by omega, rfl, HT, HB⟩
      case round =>
        clear HT HB y3 hlx
        obtain ⟨u, hu1, hu2, rfl, HT, HB⟩ := hrel
        by_cases hum : u < m
        · have ju : (u : Int) < (m : Int) := by omega
          have HTa := Lib.hid (HT.out.below ((Below.refl _ _).alloc (Nat.le_refl _) (.cells #[.int .i64 (-1)] 3)))
          have HCa : Hid ((wr.alloc (.cells #[.int .i64 (-1)] 3)).cell? ⟨wr.heap.size, 0, none⟩ = some (.int .i64 (-1))) := by
            show _ = _
            rw [cell_of_row _ _ _ _ _ _ (Array.getElem?_push_size (xs := wr.heap))]
            rfl
          have HTl : Hid ((tkL (whoR xs 0) u).length = u) := tkL_len _ _
          have HTn : Hid (∀ W, Tk W (w.heap.size + 1) m (tkL (whoR xs 0) u ++ [(-1 : Int)]) → Tk W (w.heap.size + 1) m (tkL (whoR xs 0) (u + 1))) := fun W h => by
            rw [tkL_next, whoR_none xs 0 u (by rw [HSx.out]; exact hu1)]
            exact h
          have HGn := Lib.hid (fun W2 h => HG.out wr wr W2 #[.int .i64 (-1)] 3 HB.out (.inr trivial) h)
          go_wp2_with (at_builtin; refine wpList_tick rfl (.tmp 45) (.tmp 46) rfl HTa.out HTl.out rfl rfl HCa.out hum ?_; intro w2 HT2 HG2; have HT3 := Lib.hid (HTn.out _ HT2.out); have HB3 := Lib.hid (HGn.out _ HG2.out); clear HT2 HG2)
          go_roundw
          case rel => exact ⟨u + 1, by omega, by omega, rfl, HT3, HB3⟩
          case measure => simp [lenOf]; omega
        · obtain rfl : u = m := by omega
          have ju : ¬ (u : Int) < (u : Int) := by omega
          have HBw := Lib.hid (HLx.out wr HB.out).below
          go_wp2_with fail
          go_ret
          exact ⟨_, rfl, HT.out, by omega, HBw.out⟩
end Go.Proofs.Ytkhlkbgolonkkaa
/- Lanes: the document's Ticks of needs. Own work. -/
namespace Go.Proofs.Ytkhlkbgolonkkaa
open Go.RowKit
set_option linter.unusedVariables false
/-- where Ticks stands: t ticks are told, i needs of the next one are looked at -/
structure Tn (W0 wr : World) (G g1 g2 m n : Nat) (xs : List R4) (t i : Nat) : Prop where
  tk : Tk wr G m (tkL (bestT xs) t)
  l : Di wr g1 n (gW (Lr xs t) (Lp xs t) n i)
  d : Di wr g2 n (gW (dueT xs t) (dP xs t) n i)
  bl : Below G W0 wr
  n1 : G < g1
  n2 : g1 < g2
theorem Tn.below {W0 wr w' : World} {G g1 g2 m n : Nat} {xs : List R4} {t i : Nat} (h : Tn W0 wr G g1 g2 m n xs t i) (hb : Below wr.heap.size wr w') : Tn W0 w' G g1 g2 m n xs t i :=
  ⟨h.tk.below hb, h.l.below hb, h.d.below hb, h.bl.trans (hb.mono (Nat.le_of_lt h.tk.lt)), h.n1, h.n2⟩
theorem Tn.hit {W0 wr : World} {G g1 g2 m n : Nat} {xs : List R4} {t i : Nat} (h : Tn W0 wr G g1 g2 m n xs t i) (hp : t % pN xs i = 0) : Tn W0 ((wr.setCell ⟨g1, i, none⟩ (.int .i64 (bN xs i : Int))).setCell ⟨g2, i, none⟩ (.int .i64 ((t + pN xs i : Nat) : Int))) G g1 g2 m n xs t (i + 1) := by
  have n1 := h.n1
  have n2 := h.n2
  have k1 := Keeps.setCell wr g1 i (.int .i64 (bN xs i : Int))
  have k2 := Keeps.setCell (wr.setCell ⟨g1, i, none⟩ (.int .i64 (bN xs i : Int))) g2 i (.int .i64 ((t + pN xs i : Nat) : Int))
  refine ⟨(h.tk.keeps k1 (by omega)).keeps k2 (by omega), ?_, ?_, (h.bl.setCell (by show G ≤ g1; omega) _).setCell (by show G ≤ g2; omega) _, n1, n2⟩
  · have h5 := (h.l.set i (bN xs i)).keeps k2 (by omega)
    rw [← lr_hit hp, gW_set] at h5
    rw [← lr_hit hp]
    exact h5
  · have h5 := (h.d.keeps k1 (by omega)).set i (t + pN xs i)
    rw [← due_hit hp, gW_set] at h5
    rw [← due_hit hp]
    exact h5
theorem Tn.miss {W0 wr : World} {G g1 g2 m n : Nat} {xs : List R4} {t i : Nat} (h : Tn W0 wr G g1 g2 m n xs t i) (h1 : 1 ≤ pN xs i) (hp : ¬ t % pN xs i = 0) : Tn W0 wr G g1 g2 m n xs t (i + 1) := by
  refine ⟨h.tk, ?_, ?_, h.bl, h.n1, h.n2⟩
  · rw [gW_same (lr_miss hp)]
    exact h.l
  · rw [gW_same (due_miss h1 hp)]
    exact h.d
theorem Tn.idle {W0 wr W w2 : World} {G g1 g2 m n : Nat} {xs : List R4} {t : Nat} (h : Tn W0 wr G g1 g2 m n xs t n) (hb : bestT xs t = none) (hW : Below wr.heap.size wr W) (ht : Tk w2 G m (tkL (bestT xs) t ++ [(-1 : Int)])) (hg : W.grownBy w2 (some G)) : Tn W0 w2 G g1 g2 m n xs (t + 1) 0 := by
  have n1 := h.n1
  have n2 := h.n2
  have hx := h.below hW
  have kg := Keeps.of_grown hg
  refine ⟨by rw [tkL_next, hb]; exact ht, ?_, ?_, hx.bl.grown hg (Nat.le_of_lt hx.tk.lt) (fun k hk => by cases hk; exact Nat.le_refl _), n1, n2⟩
  · rw [← gW_turn (f := Lr xs t) (g := Lp xs t) (f' := Lr xs (t + 1)) fun j _ => lp_none hb j]
    exact hx.l.keeps kg (by simp; omega)
  · rw [← gW_turn (f := dueT xs t) (g := dP xs t) (f' := dueT xs (t + 1)) (g' := dP xs (t + 1)) fun j _ => rfl]
    exact hx.d.keeps kg (by simp; omega)
theorem Tn.ran {W0 wr W w2 : World} {G g1 g2 m n : Nat} {xs : List R4} {t j : Nat} (h : Tn W0 wr G g1 g2 m n xs t n) (hb : bestT xs t = some j) (hW : Below (wr.setCell ⟨g1, j, none⟩ (.int .i64 ((Lr xs t j - 1 : Nat) : Int))).heap.size (wr.setCell ⟨g1, j, none⟩ (.int .i64 ((Lr xs t j - 1 : Nat) : Int))) W) (ht : Tk w2 G m (tkL (bestT xs) t ++ [(j : Int)])) (hg : W.grownBy w2 (some G)) : Tn W0 w2 G g1 g2 m n xs (t + 1) 0 := by
  have n1 := h.n1
  have n2 := h.n2
  have k1 := Keeps.setCell wr g1 j (.int .i64 ((Lr xs t j - 1 : Nat) : Int))
  have kg := Keeps.of_grown hg
  have hl := (h.l.set j (Lr xs t j - 1)).below hW
  have hd := (h.d.keeps k1 (by omega)).below hW
  have ht1 := (h.tk.keeps k1 (by omega)).below hW
  have hbl := (h.bl.setCell (show G ≤ (⟨g1, j, none⟩ : Addr).block by show G ≤ g1; omega) (.int .i64 ((Lr xs t j - 1 : Nat) : Int)))
  have hbl2 := hbl.trans (hW.mono (Nat.le_of_lt (h.tk.keeps k1 (by omega)).lt))
  refine ⟨by rw [tkL_next, hb]; exact ht, ?_, ?_, hbl2.grown hg (Nat.le_of_lt ht1.lt) (fun k hk => by cases hk; exact Nat.le_refl _), n1, n2⟩
  · rw [← gW_turnS (f := Lr xs t) (g := Lp xs t) (f' := Lr xs (t + 1)) (g' := Lp xs (t + 1)) (lp_some hb).1 fun i _ hi => (lp_some hb).2 i hi]
    exact hl.keeps kg (by simp; omega)
  · rw [← gW_turn (f := dueT xs t) (g := dP xs t) (f' := dueT xs (t + 1)) (g' := dP xs (t + 1)) fun j _ => rfl]
    exact hd.keeps kg (by simp; omega)
theorem bI_idle0 {xs : List R4} {t i : Nat} (h : ¬ 0 < Lr xs t i) : bI xs t (i + 1) = bI xs t i := bI_idle (fun hc => h (da_lt.1 hc))
theorem bI_first0 {xs : List R4} {t i : Nat} (h : 0 < Lr xs t i) (hn : bI xs t i = none) : bI xs t (i + 1) = some i := bI_first (da_lt.2 h) hn
theorem bI_sooner0 {xs : List R4} {t i j : Nat} (h : 0 < Lr xs t i) (hn : bI xs t i = some j) (hd : dueT xs t i < dueT xs t j) : bI xs t (i + 1) = some i := bI_sooner (da_lt.2 h) hn hd
set_option maxRecDepth 100000 in
set_option maxHeartbeats 8000000 in
theorem ticks_needs {w : World} {v : Value} {xs : List R4} {m : Nat} {q cp : Int} (h : Rn w v xs) (hm : m ≤ 65536) (hx : ∀ r ∈ xs, NdOk m r) (hl : xs.length ≤ 65536) : Calls Try.prog 30 #[.int .i64 (m : Int), .agg #[.int .i64 q, .int .u64 cp, .bool true, v]] w fun e w' => ∃ g, e = .returned (.slice (some ⟨g, 0, none⟩) m m) ∧ Tk w' g m (tkL (bestT xs) m) ∧ w.heap.size ≤ g ∧ Below w.heap.size w w' := by
  have HLx0 := Lib.hid (Lx.start (lane := #[.int .i64 q, .int .u64 cp, .bool true, v]) h)
  obtain ⟨ao, cap, rfl, h1, h2, h3, h4⟩ := h
  clear h3 h4
  unfold maxLen at h2
  obtain ⟨n, hn⟩ : ∃ n, xs.length = n := ⟨_, rfl⟩
  have HN := Lib.hid hn
  rw [hn] at h1 HLx0 hl ⊢
  have HM : Hid (m ≤ 65536) := hm
  have HOk : Hid (∀ r ∈ xs, NdOk m r) := hx
  have x2 : (w.alloc (.cells #[.int .i64 q, .int .u64 cp, .bool true, .slice ao n cap] 25)).cell? ⟨w.heap.size, 2, none⟩ = some (.bool true) := by rw [cell_of_row _ _ _ _ _ _ HLx0.out.lb]; rfl
  obtain ⟨ii, hii, hz0, hz1, hz2⟩ := info_parts info_int
  clear hn hx
  go_enter Try.func30, Try.ntmps30
  go_wp2_with (at_make; refine wpList_make_own _ rfl _ _ 73 rfl (w.heap.size + 1) 3 ii (.int .i64 0) 1 Try.underlying73 hii hz0 hz1 _ _ _ m rfl rfl rfl (by rw [hz2]; omega) (by simp only [maxLen]; omega) (by simp) ?_)
  intro w1 hown hgrow
  have hb1 : Below (w.heap.size + 1) (w.alloc (.cells #[.int .i64 q, .int .u64 cp, .bool true, .slice ao n cap] 25)) w1 := (Below.refl _ _).grown hgrow (by simp) (by simp)
  have HT1 : Hid (Tk w1 (w.heap.size + 1) m (tkL (bestT xs) 0)) := hown
  have HB1 := Lib.hid hb1
  have HLx : Hid (∀ W, Below (w.heap.size + 1) (w.alloc (.cells #[.int .i64 q, .int .u64 cp, .bool true, .slice ao n cap] 25)) W → Lx w W #[.int .i64 q, .int .u64 cp, .bool true, .slice ao n cap] (.slice ao n cap) xs) := fun W hW => HLx0.out.go (by rw [show (w.alloc (.cells #[.int .i64 q, .int .u64 cp, .bool true, .slice ao n cap] 25)).heap.size = w.heap.size + 1 by simp]; exact hW)
  have x3 : w1.cell? ⟨w.heap.size, 2, none⟩ = some (.bool true) := by rw [cell_of_row _ _ _ _ _ _ (HLx.out _ hb1).lb]; rfl
  have x4 : w1.cell? ⟨w.heap.size, 3, none⟩ = some (.slice ao n cap) := by rw [cell_of_row _ _ _ _ _ _ (HLx.out _ hb1).lb]; rfl
  obtain ⟨W0, hW0⟩ : ∃ W0, W0 = w.alloc (.cells #[.int .i64 q, .int .u64 cp, .bool true, .slice ao n cap] 25) := ⟨_, rfl⟩
  rw [← hW0] at HB1 HLx
  clear hown hgrow hb1 x2 hW0 HLx0
  go_wp2_with (at_make; refine wpList_make_full _ rfl _ _ 73 rfl w1.heap.size 3 ii (.int .i64 0) 1 Try.underlying73 hii hz0 hz1 _ _ _ _ n rfl rfl (by omega) (by omega) (by rw [hz2]; omega) (by simp only [maxLen]; omega) (Nat.le_refl _) ?_)
  intro w2 hown hgrow
  have hb2 : Below w1.heap.size w1 w2 := (Below.refl _ _).grown hgrow (Nat.le_refl _) (by simp)
  have HT2 := Lib.hid (HT1.out.below hb2)
  have HL2 : Hid (Di w2 w1.heap.size n (List.replicate n 0)) := madeJ (Nat.le_refl _) hown
  have HB2 : Hid (Below (w.heap.size + 1) W0 w2) := HB1.out.trans (hb2.mono (Nat.le_of_lt HT1.out.lt))
  have hg1 : w.heap.size + 1 < w1.heap.size := HT1.out.lt
  have x5 : w2.cell? ⟨w.heap.size, 3, none⟩ = some (.slice ao n cap) := by rw [cell_of_row _ _ _ _ _ _ (HLx.out _ HB2.out).lb]; rfl
  clear hown hgrow hb2 x3 x4 HT1 HB1
  generalize w1.heap.size = g1 at *
  go_wp2_with (at_make; refine wpList_make_full _ rfl _ _ 73 rfl w2.heap.size 3 ii (.int .i64 0) 1 Try.underlying73 hii hz0 hz1 _ _ _ _ n rfl rfl (by omega) (by omega) (by rw [hz2]; omega) (by simp only [maxLen]; omega) (Nat.le_refl _) ?_)
  intro w3 hown hgrow
  have hb3 : Below w2.heap.size w2 w3 := (Below.refl _ _).grown hgrow (Nat.le_refl _) (by simp)
  have HS : Hid (Tn W0 w3 (w.heap.size + 1) g1 w2.heap.size m n xs 0 0) := by
    refine ⟨HT2.out.below hb3, ?_, ?_, HB2.out.trans (hb3.mono (Nat.le_of_lt HT2.out.lt)), hg1, HL2.out.lt⟩
    · rw [lp_zero]; exact HL2.out.below hb3
    · rw [dp_zero]; exact madeJ (Nat.le_refl _) hown
  clear hown hgrow hb3 x5 HT2 HB2 HL2 hii hz0 hz1 hz2
  generalize w2.heap.size = g2 at *
  go_wp2_with fail
  go_loopw [5, 10] (fun kv tv wr => ∃ t : Nat, t ≤ m ∧ tv = .int .i64 (t : Int) ∧ kv = .slice (some ⟨w.heap.size + 1, 0, none⟩) t m ∧ Hid (Tn W0 wr (w.heap.size + 1) g1 g2 m n xs t 0)) (fun _ tv _ => m - (intOf tv).toNat)
  case atStart => exact ⟨0, by omega, rfl, rfl, HS⟩
  case round =>
    clear HS
    obtain ⟨t, ht, rfl, rfl, HS⟩ := hrel
    obtain ⟨wO, hwO⟩ : ∃ wO, wO = wr := ⟨_, rfl⟩
    subst hwO
    by_cases htm : t < m
    · have jt : (t : Int) < (m : Int) := by omega
      have hwt : IntKind.i64.wrap ((t : Int) + 1) = ((t + 1 : Nat) : Int) := by rw [IntKind.wrap_i64]; omega
      go_wp2_with fail
      go_loopw [11, 12] (fun bv iv wr => ∃ i : Nat, i ≤ n ∧ iv = .int .i64 (i : Int) ∧ bv = .int .i64 (fI (bI xs t i)) ∧ Hid (Tn W0 wr (w.heap.size + 1) g1 g2 m n xs t i)) (fun _ iv _ => n - (intOf iv).toNat)
      case atStart => exact ⟨0, by omega, rfl, rfl, HS⟩
      case round =>
        clear HS
        obtain ⟨i, hi, rfl, rfl, HS⟩ := hrel
        have hlx := HLx.out wr HS.out.bl
        have y3 : wr.cell? ⟨w.heap.size, 3, none⟩ = some (.slice ao n cap) := by rw [cell_of_row _ _ _ _ _ _ hlx.lb]; rfl
        by_cases hin : i < n
        · have hix : i < xs.length := by rw [HN.out]; exact hin
          have ji : (i : Int) < (n : Int) := by omega
          have hw1 : IntKind.i64.wrap ((i : Int) + 1) = ((i + 1 : Nat) : Int) := by rw [IntKind.wrap_i64]; omega
          obtain ⟨_, _, e', _, _, _, hc⟩ := hlx.rn
          simp only [Value.slice.injEq] at e'
          obtain ⟨rfl, hNn, rfl⟩ := e'
          clear hNn
          obtain ⟨b, of, rfl, c0, c1, c2, c3⟩ := hc i hix
          have HOi : Hid (NdOk m xs[i]) := HOk.out _ (List.getElem_mem hix)
          have HbN : Hid (bN xs i = xs[i].b) := bN_eq xs i hix
          have HpN : Hid (pN xs i = xs[i].p) := pN_eq xs i hix
          have HDl : Hid (dueT xs t i ≤ 2 * m) := due_le hix HOi.out.2.2.1 (by omega)
          have fz1 := HS.out.l.thawed i
          have fz2 := HS.out.d.thawed i
          have l1 := HS.out.l.cell i (by rw [gW_len]; exact hin)
          have l2 := HS.out.d.cell i (by rw [gW_len]; exact hin)
          have hng : g1 ≠ g2 := by have := HS.out.n2; omega
          have hg2 : w.heap.size < g1 ∧ w.heap.size < g2 := by have := HS.out.n2; omega
          clear hc hlx c0 c1
          generalize xs[i] = x at *
          obtain ⟨xk, x_s, xb, xp⟩ := x
          obtain ⟨o1, o2, o3, o4, _⟩ := HOi.out
          simp only at c2 c3 o1 o2 o3 o4 HbN HpN
          have hbw : IntKind.i64.wrap (xb : Int) = (xb : Int) := by rw [IntKind.wrap_i64]; omega
          have hpw : IntKind.i64.wrap (xp : Int) = (xp : Int) := by rw [IntKind.wrap_i64]; omega
          have htp : IntKind.i64.wrap ((t : Int) + (xp : Int)) = ((t + xp : Nat) : Int) := by rw [IntKind.wrap_i64]; omega
          have l0 : (xp : Int) ≠ 0 := by omega
          have l00 : ¬ xp = 0 := by omega
          obtain ⟨d, hd⟩ : ∃ d, t % xp = d := ⟨_, rfl⟩
          have HD := Lib.hid hd
          have jd : (t : Int).tmod (xp : Int) = (d : Int) := by rw [← hd]; rfl
          have hdl : d ≤ 65536 := by rw [← hd]; have := Nat.mod_le t xp; omega
          have hdw : IntKind.i64.wrap (d : Int) = (d : Int) := by rw [IntKind.wrap_i64]; omega
          clear hd o4
          go_upto_if 79 with fail
          go_cut [] (fun wx => Hid (Tn W0 wx (w.heap.size + 1) g1 g2 m n xs t (i + 1)))
          case first =>
            by_cases k4 : d = 0
            · subst k4
              have HSn : Hid (Tn W0 ((wr.setCell ⟨g1, i, none⟩ (.int .i64 (xb : Int))).setCell ⟨g2, i, none⟩ (.int .i64 ((t + xp : Nat) : Int))) (w.heap.size + 1) g1 g2 m n xs t (i + 1)) := by
                have h5 := HS.out.hit (i := i) (by rw [HpN.out]; exact HD.out)
                rw [HbN.out, HpN.out] at h5
                exact h5
              go_wp2_with fail
              go_meet
              exact HSn
            · have l4 : (d : Int) ≠ 0 := by omega
              have HSn : Hid (Tn W0 wr (w.heap.size + 1) g1 g2 m n xs t (i + 1)) := HS.out.miss (by rw [HpN.out]; omega) (by rw [HpN.out, HD.out]; exact k4)
              go_wp2_with fail
              go_meet
              exact HSn
          case rest =>
            have HS2 := hcut
            clear hcut HS c2 c3 fz1 fz2 l1 l2 y3
            have r1 : wc.cell? ⟨g1, i, none⟩ = some (.int .i64 (Lr xs t i : Int)) := by
              rw [HS2.out.l.cell i (by rw [gW_len]; exact hin), gW_get, if_pos (by omega)]
            have r2 : wc.cell? ⟨g2, i, none⟩ = some (.int .i64 (dueT xs t i : Int)) := by
              rw [HS2.out.d.cell i (by rw [gW_len]; exact hin), gW_get, if_pos (by omega)]
            have HR3 : Hid (∀ j, j < i → wc.cell? ⟨g2, j, none⟩ = some (.int .i64 (dueT xs t j : Int))) := fun j hj => by
              rw [HS2.out.d.cell j (by rw [gW_len]; omega), gW_get, if_pos (by omega)]
            obtain ⟨o, ho⟩ : ∃ o, bI xs t i = o := ⟨_, rfl⟩
            rw [ho]
            have HO := Lib.hid ho
            clear ho
            obtain ⟨lv, hlv⟩ : ∃ lv, Lr xs t i = lv := ⟨_, rfl⟩
            rw [hlv] at r1
            have HLv := Lib.hid hlv
            obtain ⟨E, hE⟩ : ∃ E, dueT xs t i = E := ⟨_, rfl⟩
            rw [hE] at r2
            have HE := Lib.hid hE
            clear hlv hE
            by_cases kl : 0 < lv
            · have jk1 : decide (0 < lv) = true := decide_eq_true kl
              have jk2 : decide ((0 : Int) < (lv : Int)) = true := decide_eq_true (by omega)
              cases o with
              | none =>
                have HN1 : Hid (bI xs t (i + 1) = some i) := bI_first0 (by rw [HLv.out]; exact kl) HO.out
                simp only [fI]
                go_wp2_with fail
                go_quiet (fail)
                go_wp2_with fail
                go_roundw
                case rel => exact ⟨i + 1, by omega, rfl, by rw [HN1.out]; rfl, HS2.out.below (bdk (Below.refl _ _) _)⟩
                case measure => simp [intOf]; omega
              | some j =>
                have hji : j < i := bI_lt HO.out
                have r3 := HR3.out j hji
                obtain ⟨U, hU⟩ : ∃ U, dueT xs t j = U := ⟨_, rfl⟩
                rw [hU] at r3
                have HU := Lib.hid hU
                clear hU
                have jj0 : decide ((j : Int) < 0) = false := decide_eq_false (by omega)
                have jj1 : ¬ (j : Int) < 0 := by omega
                have jj2 : (j : Int) < (n : Int) := by omega
                simp only [fI]
                by_cases kE : E < U
                · have jE : decide (E < U) = true := decide_eq_true kE
                  have jE2 : decide ((E : Int) < (U : Int)) = true := decide_eq_true (by omega)
                  have HN1 : Hid (bI xs t (i + 1) = some i) := bI_sooner0 (by rw [HLv.out]; exact kl) HO.out (by rw [HE.out, HU.out]; exact kE)
                  go_wp2_with fail
                  go_quiet (fail)
                  go_wp2_with fail
                  go_roundw
                  case rel => exact ⟨i + 1, by omega, rfl, by rw [HN1.out]; rfl, HS2.out.below (bdk (Below.refl _ _) _)⟩
                  case measure => simp [intOf]; omega
                · have jE : decide (E < U) = false := decide_eq_false kE
                  have jE2 : decide ((E : Int) < (U : Int)) = false := decide_eq_false (by omega)
                  have HN1 : Hid (bI xs t (i + 1) = some j) := bI_later HO.out (by rw [HE.out, HU.out]; exact kE)
                  go_wp2_with fail
                  go_quiet (fail)
                  go_wp2_with fail
                  go_roundw
                  case rel => exact ⟨i + 1, by omega, rfl, by rw [HN1.out]; rfl, HS2.out.below (bdk (Below.refl _ _) _)⟩
                  case measure => simp [intOf]; omega
            · have jk1 : decide (0 < lv) = false := decide_eq_false kl
              have jk2 : decide ((0 : Int) < (lv : Int)) = false := decide_eq_false (by omega)
              have HN1 : Hid (bI xs t (i + 1) = o) := by
                show _ = _
                rw [bI_idle0 (by rw [HLv.out]; exact kl)]
                exact HO.out
              go_wp2_with fail
              go_quiet (fail)
              go_wp2_with fail
              go_roundw
              case rel => exact ⟨i + 1, by omega, rfl, by rw [HN1.out], HS2.out.below (bdk (Below.refl _ _) _)⟩
              case measure => simp [intOf]; omega
        · obtain rfl : i = n := by omega
          have ji : ¬ (i : Int) < (i : Int) := by omega
          have hbt : bI xs t i = bestT xs t := by rw [← bI_full, HN.out]
          rw [hbt]
          have HTl : Hid ((tkL (bestT xs) t).length = t) := tkL_len _ _
          cases hb : bestT xs t with
          | none =>
            have HTa := Lib.hid (HS.out.tk.below ((Below.refl _ _).alloc (Nat.le_refl _) (.cells #[.int .i64 (-1)] 3)))
            have HCa : Hid ((wr.alloc (.cells #[.int .i64 (-1)] 3)).cell? ⟨wr.heap.size, 0, none⟩ = some (.int .i64 (-1))) := by
              show _ = _
              rw [cell_of_row _ _ _ _ _ _ (Array.getElem?_push_size (xs := wr.heap))]
              rfl
            have HNx : Hid (∀ w2, Tk w2 (w.heap.size + 1) m (tkL (bestT xs) t ++ [(-1 : Int)]) → (wr.alloc (.cells #[.int .i64 (-1)] 3)).grownBy w2 (some (w.heap.size + 1)) → Tn W0 w2 (w.heap.size + 1) g1 g2 m i xs (t + 1) 0) := fun w2 a b => HS.out.idle hb ((Below.refl _ _).alloc (Nat.le_refl _) _) a b
            simp only [fI]
            clear hbt hb
            go_wp2_with (at_builtin; refine wpList_tick rfl (.tmp 125) (.tmp 127) rfl HTa.out HTl.out rfl rfl HCa.out htm ?_; intro w2 HT2 HG2; have HS3 := Lib.hid (HNx.out _ HT2.out HG2.out); clear HT2 HG2)
            go_roundw
            case rel => exact ⟨t + 1, by omega, rfl, rfl, HS3⟩
            case measure => simp [intOf]; omega
          | some j =>
            have hji : j < i := bI_lt (by rw [hbt]; exact hb)
            have hL0 : 0 < Lr xs t j := ((bestI_spec (Lr xs t) (dueT xs t) xs.length).2 j hb).2.1
            have hLb : Lr xs t j ≤ 65536 := by
              have h5 := lr_le xs t j
              rw [bN_eq xs j (by rw [HN.out]; exact hji)] at h5
              have h6 := HOk.out _ (List.getElem_mem (by rw [HN.out]; exact hji : j < xs.length))
              unfold NdOk at h6
              omega
            have r1 : wr.cell? ⟨g1, j, none⟩ = some (.int .i64 (Lr xs t j : Int)) := by
              rw [HS.out.l.cell j (by rw [gW_len]; exact hji), gW_get, if_pos hji]
            have rz := HS.out.l.thawed j
            have HTa : Hid (Tk ((wr.setCell ⟨g1, j, none⟩ (.int .i64 ((Lr xs t j - 1 : Nat) : Int))).alloc (.cells #[.int .i64 (j : Int)] 3)) (w.heap.size + 1) m (tkL (bestT xs) t)) := (HS.out.tk.keeps (Keeps.setCell wr g1 j _) (by have := HS.out.n1; omega)).below ((Below.refl _ _).alloc (Nat.le_refl _) _)
            have HCa : Hid (((wr.setCell ⟨g1, j, none⟩ (.int .i64 ((Lr xs t j - 1 : Nat) : Int))).alloc (.cells #[.int .i64 (j : Int)] 3)).cell? ⟨wr.heap.size, 0, none⟩ = some (.int .i64 (j : Int))) := by
              show _ = _
              have h5 := Array.getElem?_push_size (xs := (wr.setCell ⟨g1, j, none⟩ (.int .i64 ((Lr xs t j - 1 : Nat) : Int))).heap) (x := .cells #[.int .i64 (j : Int)] 3)
              rw [show (wr.setCell ⟨g1, j, none⟩ (.int .i64 ((Lr xs t j - 1 : Nat) : Int))).heap.size = wr.heap.size by simp] at h5
              rw [cell_of_row _ _ _ _ _ _ h5]
              rfl
            have HNx : Hid (∀ w2, Tk w2 (w.heap.size + 1) m (tkL (bestT xs) t ++ [(j : Int)]) → ((wr.setCell ⟨g1, j, none⟩ (.int .i64 ((Lr xs t j - 1 : Nat) : Int))).alloc (.cells #[.int .i64 (j : Int)] 3)).grownBy w2 (some (w.heap.size + 1)) → Tn W0 w2 (w.heap.size + 1) g1 g2 m i xs (t + 1) 0) := fun w2 a b => HS.out.ran hb ((Below.refl _ _).alloc (Nat.le_refl _) _) a b
            simp only [fI]
            clear hbt hb
            obtain ⟨lv, hlv⟩ : ∃ lv, Lr xs t j = lv + 1 := ⟨Lr xs t j - 1, by omega⟩
            rw [hlv] at r1 HTa HCa HNx hLb
            rw [Nat.add_sub_cancel] at HTa HCa HNx
            have hwl : IntKind.i64.wrap (((lv + 1 : Nat) : Int) - 1) = (lv : Int) := by rw [IntKind.wrap_i64]; omega
            clear hlv hL0
            have jj1 : (0 : Int) ≤ (j : Int) := by omega
            have jj2 : (j : Int) < (i : Int) := by omega
            go_wp2_with (at_builtin; refine wpList_tick rfl (.tmp 125) (.tmp 127) rfl HTa.out HTl.out rfl rfl HCa.out htm ?_; intro w2 HT2 HG2; have HS3 := Lib.hid (HNx.out _ HT2.out HG2.out); clear HT2 HG2)
            go_roundw
            case rel => exact ⟨t + 1, by omega, rfl, rfl, HS3⟩
            case measure => simp [intOf]; omega
    · obtain rfl : t = m := by omega
      have jt : ¬ (t : Int) < (t : Int) := by omega
      have HBw := Lib.hid (HLx.out wO HS.out.bl).below
      go_wp2_with fail
      go_ret
      exact ⟨_, rfl, HS.out.tk, by omega, HBw.out⟩
end Go.Proofs.Ytkhlkbgolonkkaa
/- Lanes: the document's own wrong and wants of a run; both Demands. Own work. -/
namespace Go.Proofs.Ytkhlkbgolonkkaa
open Go.RowKit
set_option linter.unusedVariables false
set_option maxRecDepth 100000 in
set_option maxHeartbeats 2000000 in
theorem rWrong_any {m : Nat} {nd : Bool} {r : R4} (hm : 1 ≤ m) (w : World) : Calls Try.prog 28 #[.int .u64 (m : Int), r.v, .bool nd] w fun e w' => e = .returned (.int .i64 (wantsF m nd r).2) ∧ Below w.heap.size w w' := by
  obtain ⟨q, s, b, p⟩ := r
  unfold R4.v wantsF
  simp only
  by_cases h0 : b = 0
  · subst h0
    rw [if_pos (.inl rfl)]
    go_enter Try.func28, Try.ntmps28
    go_wp2_with fail
    go_ret
    exact ⟨rfl, (Below.refl _ _).alloc (Nat.le_refl _) _⟩
  by_cases h1 : m < b
  · rw [if_pos (.inr h1)]
    have h2 : (m : Int) < (b : Int) := by omega
    have h4 : (b : Int) ≠ 0 := by omega
    go_enter Try.func28, Try.ntmps28
    go_wp2_with fail
    go_ret
    exact ⟨rfl, (Below.refl _ _).alloc (Nat.le_refl _) _⟩
  rw [if_neg (by omega)]
  have h3 : ¬ (m : Int) < (b : Int) := by omega
  have h4 : (b : Int) ≠ 0 := by omega
  cases nd with
  | false =>
    rw [if_pos rfl]
    clear h0 h1
    go_enter Try.func28, Try.ntmps28
    go_wp2_with fail
    go_ret
    exact ⟨rfl, (Below.refl _ _).alloc (Nat.le_refl _) _⟩
  | true =>
    rw [if_neg (by decide)]
    by_cases h5 : s.toList.isEmpty = true
    · rw [if_pos h5]
      clear h0 h1
      go_enter Try.func28, Try.ntmps28
      go_wp2_with fail
      go_ret
      exact ⟨rfl, (Below.refl _ _).alloc (Nat.le_refl _) _⟩
    rw [if_neg h5]
    have h5 : s.toList.isEmpty = false := by simpa using h5
    by_cases h6 : p = 0
    · subst h6
      rw [if_pos (.inl rfl)]
      clear h0 h1
      go_enter Try.func28, Try.ntmps28
      go_wp2_with fail
      go_ret
      exact ⟨rfl, (Below.refl _ _).alloc (Nat.le_refl _) _⟩
    have j6 : (p : Int) ≠ 0 := by omega
    by_cases h9 : m < p
    · rw [if_pos (.inr (.inl (by rw [Nat.mod_eq_of_lt h9]; omega)))]
      have j9 : (m : Int) < (p : Int) := by omega
      clear h0 h1
      go_enter Try.func28, Try.ntmps28
      go_wp2_with fail
      go_ret
      exact ⟨rfl, (Below.refl _ _).alloc (Nat.le_refl _) _⟩
    have j9 : ¬ (m : Int) < (p : Int) := by omega
    obtain ⟨d, hd⟩ : ∃ d, m % p = d := ⟨_, rfl⟩
    have jd : (m : Int).tmod (p : Int) = (d : Int) := by rw [← hd]; rfl
    rw [hd]
    clear h0 h1
    by_cases h7 : d = 0
    · by_cases h8 : p < b
      · rw [if_pos (.inr (.inr h8))]
        have j8 : (p : Int) < (b : Int) := by omega
        subst h7
        clear hd
        go_enter Try.func28, Try.ntmps28
        go_wp2_with fail
        go_ret
        exact ⟨rfl, (Below.refl _ _).alloc (Nat.le_refl _) _⟩
      · rw [if_neg (by omega)]
        have j8 : ¬ (p : Int) < (b : Int) := by omega
        subst h7
        clear hd
        go_enter Try.func28, Try.ntmps28
        go_wp2_with fail
        go_ret
        exact ⟨rfl, (Below.refl _ _).alloc (Nat.le_refl _) _⟩
    · rw [if_pos (.inr (.inl h7))]
      have j7 : (d : Int) ≠ 0 := by omega
      clear hd
      go_enter Try.func28, Try.ntmps28
      go_wp2_with fail
      go_ret
      exact ⟨rfl, (Below.refl _ _).alloc (Nat.le_refl _) _⟩
set_option maxRecDepth 100000 in
set_option maxHeartbeats 2000000 in
theorem rWants_any {m : Nat} {nd : Bool} {r : R4} (hm : m ≤ 65536) (h : (wantsF m nd r).2 = 0) (w : World) : Calls Try.prog 29 #[.int .u64 (m : Int), r.v, .bool nd] w fun e w' => e = .returned (.int .u64 ((wantsF m nd r).1 : Int)) ∧ Below w.heap.size w w' := by
  obtain ⟨q, s, b, p⟩ := r
  have hle := wantsF_le m nd ⟨q, s, b, p⟩
  unfold R4.v
  unfold wantsF at h hle ⊢
  simp only at h hle ⊢
  by_cases h1 : b = 0 ∨ m < b
  · rw [if_pos h1] at h
    simp at h
  rw [if_neg h1] at h hle ⊢
  cases nd with
  | false =>
    rw [if_pos rfl]
    clear h h1 hle
    go_enter Try.func29, Try.ntmps29
    go_wp2_with fail
    go_ret
    exact ⟨rfl, (Below.refl _ _).alloc (Nat.le_refl _) _⟩
  | true =>
    rw [if_neg (by decide)] at h hle ⊢
    by_cases h5 : s.toList.isEmpty = true
    · rw [if_pos h5] at h
      simp at h
    rw [if_neg h5] at h hle ⊢
    by_cases h6 : p = 0 ∨ m % p ≠ 0 ∨ p < b
    · rw [if_pos h6] at h
      simp at h
    rw [if_neg h6] at hle ⊢
    have j6 : ¬ p = 0 := by omega
    have j7 : (p : Int) ≠ 0 := by omega
    obtain ⟨u, hu⟩ : ∃ u, m / p = u := ⟨_, rfl⟩
    have ju : (m : Int).tdiv (p : Int) = (u : Int) := by rw [← hu]; rfl
    have hul : u ≤ m := by rw [← hu]; exact Nat.div_le_self m p
    rw [hu] at hle ⊢
    simp only at hle ⊢
    have hwu : IntKind.u64.wrap (u : Int) = (u : Int) := by rw [IntKind.wrap_u64]; omega
    have hw : IntKind.u64.wrap ((b : Int) * (u : Int)) = ((b * u : Nat) : Int) := by
      rw [show (b : Int) * (u : Int) = ((b * u : Nat) : Int) by simp, IntKind.wrap_u64]; omega
    clear hu h h1 h5 h6
    have z2 : (w.alloc (.cells #[.int .i64 q, .string s, .int .u64 (b : Int), .int .u64 (p : Int)] 30)).cell? ⟨w.heap.size, 2, none⟩ = some (.int .u64 (b : Int)) := by rw [cell_of_row _ _ _ _ _ _ (Array.getElem?_push_size (xs := w.heap))]; rfl
    have z3 : (w.alloc (.cells #[.int .i64 q, .string s, .int .u64 (b : Int), .int .u64 (p : Int)] 30)).cell? ⟨w.heap.size, 3, none⟩ = some (.int .u64 (p : Int)) := by rw [cell_of_row _ _ _ _ _ _ (Array.getElem?_push_size (xs := w.heap))]; rfl
    go_enter Try.func29, Try.ntmps29
    go_wp2_with fail
    go_quiet (fail)
    go_wp2_with fail
    go_ret
    exact ⟨rfl, bdk ((Below.refl _ _).alloc (Nat.le_refl _) _) _⟩
/-- how much a lane wants -/
def demA (m : Nat) (nd : Bool) : Nat → List R4 → Option Nat
  | s, [] => some s
  | s, r :: rs => if (wantsF m nd r).2 ≠ 0 then none else demA m nd (s + (wantsF m nd r).1) rs
def demV : Option Nat → Value
  | none => .tuple #[.int .u64 0, .bool false]
  | some d => .tuple #[.int .u64 (d : Int), .bool true]
def demF (m : Nat) (nd : Bool) (xs : List R4) : Option Nat := if m = 0 ∨ 65536 < m then none else demA m nd 0 xs
end Go.Proofs.Ytkhlkbgolonkkaa
/- Lanes: Demand, the package's and the document's own, of any lane. Own work. -/
namespace Go.Proofs.Ytkhlkbgolonkkaa
open Go.RowKit
set_option linter.unusedVariables false
set_option maxRecDepth 100000 in
set_option maxHeartbeats 4000000 in
theorem demand_any {w : World} {v : Value} {xs : List R4} {m : Nat} {q cp : Int} {nd : Bool} (h : Rn w v xs) (hl : xs.length ≤ 3518437208780) : Calls Try.prog 17 #[.int .u64 (m : Int), .agg #[.int .i64 q, .int .u64 cp, .bool nd, v]] w fun e w' => e = .returned (demV (demF m nd xs)) ∧ Below w.heap.size w w' := by
  have HLx0 := Lib.hid (Lx.start (lane := #[.int .i64 q, .int .u64 cp, .bool nd, v]) h)
  obtain ⟨ao, cap, rfl, h1, h2, h3, h4⟩ := h
  have HX : Hid (∀ x ∈ xs, R4.ok x) := h3
  clear h3 h4
  unfold maxLen at h2
  obtain ⟨n, hn⟩ : ∃ n, xs.length = n := ⟨_, rfl⟩
  have HN := Lib.hid hn
  rw [hn] at h1 HLx0 hl ⊢
  clear hn
  unfold demF
  by_cases hm : m = 0 ∨ 65536 < m
  · rw [if_pos hm]
    have HF : Hid (∀ W, Calls Try.prog 24 #[.int .u64 (m : Int)] W fun e w' => e = .returned (.bool false) ∧ w' = W) := fun W => framed_no hm W
    clear hm
    unfold demV
    go_enter Try.func17, Try.ntmps17
    go_wp2_with (go_at_call 24; refine (HF.out _).mono ?_; rintro e w' ⟨rfl, hw⟩; have hw := hw.symm; subst hw)
    go_ret2
    exact ⟨rfl, HLx0.out.below⟩
  · rw [if_neg hm]
    have HM : Hid (1 ≤ m ∧ m ≤ 65536) := ⟨by omega, by omega⟩
    have HF : Hid (∀ W, Calls Try.prog 24 #[.int .u64 (m : Int)] W fun e w' => e = .returned (.bool true) ∧ w' = W) := fun W => framed_yes HM.out.1 HM.out.2 W
    obtain ⟨RV, hRV⟩ : ∃ R, demA m nd 0 xs = R := ⟨_, rfl⟩
    rw [hRV]
    have HR0 : Hid (demA m nd 0 (xs.drop 0) = RV) := hRV
    have x3 : (w.alloc (.cells #[.int .i64 q, .int .u64 cp, .bool nd, .slice ao n cap] 25)).cell? ⟨w.heap.size, 3, none⟩ = some (.slice ao n cap) := by rw [cell_of_row _ _ _ _ _ _ HLx0.out.lb]; rfl
    clear hm hRV
    go_enter Try.func17, Try.ntmps17
    go_wp2_with (go_at_call 24; refine (HF.out _).mono ?_; rintro e w' ⟨rfl, hw⟩; have hw := hw.symm; subst hw)
    go_loopw [6, 17] (fun sv iv wr => ∃ (i s : Nat), i ≤ n ∧ iv = .int .i64 (i : Int) ∧ sv = .int .u64 (s : Int) ∧ s ≤ i * 65536 ∧ Hid (demA m nd s (xs.drop i) = RV) ∧ Hid (Lx w wr #[.int .i64 q, .int .u64 cp, .bool nd, .slice ao n cap] (.slice ao n cap) xs)) (fun _ iv _ => n - (intOf iv).toNat)
    case atStart => exact ⟨0, 0, by omega, rfl, rfl, by omega, HR0, HLx0⟩
    case round =>
      clear HLx0 HR0 x3
      obtain ⟨i, s, hi, rfl, rfl, hs, HE, HL⟩ := hrel
      by_cases hin : i < n
      · have hix : i < xs.length := by rw [HN.out]; exact hin
        have ji : (i : Int) < (n : Int) := by omega
        have hw1 : IntKind.i64.wrap ((i : Int) + 1) = ((i + 1 : Nat) : Int) := by rw [IntKind.wrap_i64]; omega
        obtain ⟨_, _, e', _, _, _, hc⟩ := HL.out.rn
        simp only [Value.slice.injEq] at e'
        obtain ⟨rfl, hNn, rfl⟩ := e'
        clear hNn
        obtain ⟨b, of, rfl, c0, c1, c2, c3⟩ := hc i hix
        have HK : Hid (R4.ok xs[i]) := HX.out xs[i] (List.getElem_mem _)
        have HD : Hid (demA m nd s (xs[i] :: xs.drop (i + 1)) = RV) := by
          have := HE.out
          rw [List.drop_eq_getElem_cons hix] at this
          exact this
        clear hc HE
        generalize xs[i] = x at *
        have y2 : wr.cell? ⟨w.heap.size, 2, none⟩ = some (.bool nd) := by rw [cell_of_row _ _ _ _ _ _ HL.out.lb]; rfl
        have y3 := cell_alloc y2 (.cells #[.int .i64 x.k, .string x.s, .int .u64 (x.b : Int), .int .u64 (x.p : Int)] 30)
        have HW : Hid (∀ W, Calls Try.prog 33 #[.int .u64 (m : Int), .bool nd, .agg #[.int .i64 x.k, .string x.s, .int .u64 (x.b : Int), .int .u64 (x.p : Int)]] W fun e w' => e = .returned (.tuple #[.int .u64 ((wantsF m nd x).1 : Int), .int .i64 (wantsF m nd x).2]) ∧ Below W.heap.size W w') := fun W => wants_any HK.out HM.out.2 W
        have hle := wantsF_le m nd x
        unfold demA at HD
        clear y2
        go_wp2_with fail
        refine (HW.out _).mono ?_
        rintro e w5 ⟨rfl, hb5⟩
        have HL5 : Hid (Lx w w5 #[.int .i64 q, .int .u64 cp, .bool nd, .slice (some ⟨b, of, none⟩) n cap] (.slice (some ⟨b, of, none⟩) n cap) xs) := (HL.out.go ((Below.refl _ _).alloc (Nat.le_refl _) (.cells #[.int .i64 x.k, .string x.s, .int .u64 (x.b : Int), .int .u64 (x.p : Int)] 30))).go hb5
        clear hb5 y3 c0 c1 c2 c3 HW HL HK
        have hmm := HM.out
        generalize wantsF m nd x = z at *
        obtain ⟨t, er⟩ := z
        simp only at hle HD ⊢
        by_cases h5 : er = 0
        · subst h5
          have hst : IntKind.u64.wrap ((s : Int) + (t : Int)) = ((s + t : Nat) : Int) := by rw [IntKind.wrap_u64]; omega
          have HD2 : Hid (demA m nd (s + t) (xs.drop (i + 1)) = RV) := by
            have h6 := HD.out
            simp only [ne_eq, not_true_eq_false, if_false] at h6
            exact h6
          have hsi : s + t ≤ (i + 1) * 65536 := by omega
          clear HD hmm
          go_wp2_with fail
          go_roundw
          case rel => exact ⟨i + 1, s + t, by omega, rfl, rfl, hsi, HD2, HL5⟩
          case measure => simp [intOf]; omega
        · have HD2 : Hid (RV = none) := by
            have h6 := HD.out
            simp only [ne_eq, h5, not_false_eq_true, if_true] at h6
            exact h6.symm
          clear HD hmm
          go_wp2_with fail
          go_ret2
          exact ⟨by rw [HD2.out]; rfl, HL5.out.below⟩
      · obtain rfl : i = n := by omega
        have ji : ¬ (i : Int) < (i : Int) := by omega
        have HD2 : Hid (RV = some s) := by
          have h6 := HE.out
          rw [List.drop_of_length_le (by rw [HN.out]; exact Nat.le_refl _)] at h6
          exact h6.symm
        clear HE
        go_wp2_with fail
        go_ret2
        exact ⟨by rw [HD2.out]; rfl, HL.out.below⟩
set_option maxRecDepth 100000 in
set_option maxHeartbeats 4000000 in
theorem rDemand_any {w : World} {v : Value} {xs : List R4} {m : Nat} {q cp : Int} {nd : Bool} (h : Rn w v xs) (hl : xs.length ≤ 3518437208780) : Calls Try.prog 22 #[.int .u64 (m : Int), .agg #[.int .i64 q, .int .u64 cp, .bool nd, v]] w fun e w' => e = .returned (demV (demF m nd xs)) ∧ Below w.heap.size w w' := by
  have HLx0 := Lib.hid (Lx.start (lane := #[.int .i64 q, .int .u64 cp, .bool nd, v]) h)
  obtain ⟨ao, cap, rfl, h1, h2, h3, h4⟩ := h
  clear h3 h4
  unfold maxLen at h2
  obtain ⟨n, hn⟩ : ∃ n, xs.length = n := ⟨_, rfl⟩
  have HN := Lib.hid hn
  rw [hn] at h1 HLx0 hl ⊢
  clear hn
  unfold demF
  by_cases hm0 : m < 1
  · rw [if_pos (by omega)]
    have j0 : (m : Int) < 1 := by omega
    unfold demV
    go_enter Try.func22, Try.ntmps22
    go_wp2_with fail
    go_ret2
    exact ⟨rfl, HLx0.out.below⟩
  have j0 : ¬ (m : Int) < 1 := by omega
  by_cases hm1 : 65536 < m
  · rw [if_pos (by omega)]
    have j1 : (65536 : Int) < (m : Int) := by omega
    unfold demV
    go_enter Try.func22, Try.ntmps22
    go_wp2_with fail
    go_ret2
    exact ⟨rfl, HLx0.out.below⟩
  have j1 : ¬ (65536 : Int) < (m : Int) := by omega
  rw [if_neg (by omega)]
  have HM : Hid (1 ≤ m ∧ m ≤ 65536) := ⟨by omega, by omega⟩
  obtain ⟨RV, hRV⟩ : ∃ R, demA m nd 0 xs = R := ⟨_, rfl⟩
  rw [hRV]
  have HR0 : Hid (demA m nd 0 (xs.drop 0) = RV) := hRV
  have x3 : (w.alloc (.cells #[.int .i64 q, .int .u64 cp, .bool nd, .slice ao n cap] 25)).cell? ⟨w.heap.size, 3, none⟩ = some (.slice ao n cap) := by rw [cell_of_row _ _ _ _ _ _ HLx0.out.lb]; rfl
  have dj0 : decide ((m : Int) < 1) = false := decide_eq_false j0
  have dj1 : decide ((65536 : Int) < (m : Int)) = false := decide_eq_false j1
  clear hm0 hm1 hRV j0 j1
  go_enter Try.func22, Try.ntmps22
  go_wp2_with fail
  go_loopw [6, 7] (fun sv iv wr => ∃ (i s : Nat), i ≤ n ∧ iv = .int .i64 (i : Int) ∧ sv = .int .u64 (s : Int) ∧ s ≤ i * 65536 ∧ Hid (demA m nd s (xs.drop i) = RV) ∧ Hid (Lx w wr #[.int .i64 q, .int .u64 cp, .bool nd, .slice ao n cap] (.slice ao n cap) xs)) (fun _ iv _ => n - (intOf iv).toNat)
  case atStart => exact ⟨0, 0, by omega, rfl, rfl, by omega, HR0, HLx0⟩
  case round =>
    clear HLx0 HR0 x3
    obtain ⟨i, s, hi, rfl, rfl, hs, HE, HL⟩ := hrel
    have y3 : wr.cell? ⟨w.heap.size, 3, none⟩ = some (.slice ao n cap) := by rw [cell_of_row _ _ _ _ _ _ HL.out.lb]; rfl
    by_cases hin : i < n
    · have hix : i < xs.length := by rw [HN.out]; exact hin
      have ji : (i : Int) < (n : Int) := by omega
      have hw1 : IntKind.i64.wrap ((i : Int) + 1) = ((i + 1 : Nat) : Int) := by rw [IntKind.wrap_i64]; omega
      obtain ⟨_, _, e', _, _, _, hc⟩ := HL.out.rn
      simp only [Value.slice.injEq] at e'
      obtain ⟨rfl, hNn, rfl⟩ := e'
      clear hNn
      obtain ⟨b, of, rfl, c0, c1, c2, c3⟩ := hc i hix
      have y2 : wr.cell? ⟨w.heap.size, 2, none⟩ = some (.bool nd) := by rw [cell_of_row _ _ _ _ _ _ HL.out.lb]; rfl
      have HD : Hid (demA m nd s (xs[i] :: xs.drop (i + 1)) = RV) := by
        have := HE.out
        rw [List.drop_eq_getElem_cons hix] at this
        exact this
      have HRc : Hid (∀ W, Lx w W #[.int .i64 q, .int .u64 cp, .bool nd, .slice (some ⟨b, of, none⟩) n cap] (.slice (some ⟨b, of, none⟩) n cap) xs → W.cell? ⟨w.heap.size, 2, none⟩ = some (.bool nd) ∧ W.cell? ⟨w.heap.size, 3, none⟩ = some (.slice (some ⟨b, of, none⟩) n cap) ∧ W.cell? ⟨b, of + i * 4, none⟩ = some (.int .i64 xs[i].k) ∧ W.cell? ⟨b, of + i * 4 + 1, none⟩ = some (.string xs[i].s) ∧ W.cell? ⟨b, of + i * 4 + 2, none⟩ = some (.int .u64 (xs[i].b : Int)) ∧ W.cell? ⟨b, of + i * 4 + 3, none⟩ = some (.int .u64 (xs[i].p : Int))) := fun W hW => by
        obtain ⟨_, _, e', _, _, _, hc⟩ := hW.rn
        simp only [Value.slice.injEq] at e'
        obtain ⟨rfl, _, rfl⟩ := e'
        obtain ⟨b', of', e2, c0, c1, c2, c3⟩ := hc i hix
        cases e2
        exact ⟨by rw [cell_of_row _ _ _ _ _ _ hW.lb]; rfl, by rw [cell_of_row _ _ _ _ _ _ hW.lb]; rfl, c0, c1, c2, c3⟩
      clear hc HE
      generalize xs[i] = x at *
      have HWr : Hid (∀ W, Below wr.heap.size wr W → Calls Try.prog 28 #[.int .u64 (m : Int), .agg #[.int .i64 x.k, .string x.s, .int .u64 (x.b : Int), .int .u64 (x.p : Int)], .bool nd] W fun e w' => e = .returned (.int .i64 (wantsF m nd x).2) ∧ (w'.cell? ⟨w.heap.size, 2, none⟩ = some (.bool nd) ∧ w'.cell? ⟨w.heap.size, 3, none⟩ = some (.slice (some ⟨b, of, none⟩) n cap) ∧ w'.cell? ⟨b, of + i * 4, none⟩ = some (.int .i64 x.k) ∧ w'.cell? ⟨b, of + i * 4 + 1, none⟩ = some (.string x.s) ∧ w'.cell? ⟨b, of + i * 4 + 2, none⟩ = some (.int .u64 (x.b : Int)) ∧ w'.cell? ⟨b, of + i * 4 + 3, none⟩ = some (.int .u64 (x.p : Int))) ∧ Hid (Lx w w' #[.int .i64 q, .int .u64 cp, .bool nd, .slice (some ⟨b, of, none⟩) n cap] (.slice (some ⟨b, of, none⟩) n cap) xs)) := fun W hW => (rWrong_any (r := x) HM.out.1 W).mono fun e w' ⟨he, hb⟩ => by
        have hx := (HL.out.go hW).go hb
        exact ⟨he, HRc.out _ hx, hx⟩
      have hle := wantsF_le m nd x
      unfold demA at HD
      go_upto_region 7 with fail
      go_cut [30] (fun ev wx => ev = .bool ((wantsF m nd x).2 != 0) ∧ Hid (Lx w wx #[.int .i64 q, .int .u64 cp, .bool nd, .slice (some ⟨b, of, none⟩) n cap] (.slice (some ⟨b, of, none⟩) n cap) xs))
      case first =>
        generalize wantsF m nd x = z at *
        obtain ⟨t, er⟩ := z
        simp only at hle HD HWr ⊢
        obtain ⟨xk, x_s, xb, xp⟩ := x
        simp only at c0 c1 c2 c3 HWr HRc
        go_region_held3 (fun w' => w'.cell? ⟨w.heap.size, 2, none⟩ = some (.bool nd) ∧ w'.cell? ⟨w.heap.size, 3, none⟩ = some (.slice (some ⟨b, of, none⟩) n cap) ∧ w'.cell? ⟨b, of + i * 4, none⟩ = some (.int .i64 xk) ∧ w'.cell? ⟨b, of + i * 4 + 1, none⟩ = some (.string x_s) ∧ w'.cell? ⟨b, of + i * 4 + 2, none⟩ = some (.int .u64 (xb : Int)) ∧ w'.cell? ⟨b, of + i * 4 + 3, none⟩ = some (.int .u64 (xp : Int))) (go_keep) (first | (go_at_call 28; refine (HWr.out _ (Below.refl _ _).drew).mono ?_; rintro e w9 ⟨rfl, ⟨k2, k3, k4, k5, k6, k7⟩, HL9⟩))
        all_goals
          go_wp2_with fail
          go_meet
          exact ⟨rfl, HL9⟩
      case rest =>
        obtain ⟨rfl, HL2⟩ := hcut
        clear HWr c0 c1 c2 c3 y2 y3 HL
        by_cases h5 : (wantsF m nd x).2 = 0
        · have e5 : ((wantsF m nd x).2 != 0) = false := by simp [h5]
          rw [e5]
          have HD2 : Hid (demA m nd (s + (wantsF m nd x).1) (xs.drop (i + 1)) = RV) := by
            have h6 := HD.out
            simp only [ne_eq, h5, not_true_eq_false, if_false] at h6
            exact h6
          have HWn : Hid (∀ W, Below wc.heap.size wc W → Calls Try.prog 29 #[.int .u64 (m : Int), .agg #[.int .i64 x.k, .string x.s, .int .u64 (x.b : Int), .int .u64 (x.p : Int)], .bool nd] W fun e w' => e = .returned (.int .u64 ((wantsF m nd x).1 : Int)) ∧ (w'.cell? ⟨w.heap.size, 2, none⟩ = some (.bool nd) ∧ w'.cell? ⟨w.heap.size, 3, none⟩ = some (.slice (some ⟨b, of, none⟩) n cap) ∧ w'.cell? ⟨b, of + i * 4, none⟩ = some (.int .i64 x.k) ∧ w'.cell? ⟨b, of + i * 4 + 1, none⟩ = some (.string x.s) ∧ w'.cell? ⟨b, of + i * 4 + 2, none⟩ = some (.int .u64 (x.b : Int)) ∧ w'.cell? ⟨b, of + i * 4 + 3, none⟩ = some (.int .u64 (x.p : Int))) ∧ Hid (Lx w w' #[.int .i64 q, .int .u64 cp, .bool nd, .slice (some ⟨b, of, none⟩) n cap] (.slice (some ⟨b, of, none⟩) n cap) xs)) := fun W hW => (rWants_any (r := x) HM.out.2 h5 W).mono fun e w' ⟨he, hb⟩ => by
            have hx := (HL2.out.go hW).go hb
            exact ⟨he, HRc.out _ hx, hx⟩
          obtain ⟨y2, y3, c0, c1, c2, c3⟩ := HRc.out _ HL2.out
          have hmm := HM.out
          clear HD e5 h5 HRc
          generalize (wantsF m nd x).1 = t at *
          have hst : IntKind.u64.wrap ((s : Int) + (t : Int)) = ((s + t : Nat) : Int) := by rw [IntKind.wrap_u64]; omega
          have hsi : s + t ≤ (i + 1) * 65536 := by omega
          clear hmm
          obtain ⟨xk, x_s, xb, xp⟩ := x
          simp only at c0 c1 c2 c3 HWn
          go_wp2_with fail
          go_region_held3 (fun w' => w'.cell? ⟨w.heap.size, 2, none⟩ = some (.bool nd) ∧ w'.cell? ⟨w.heap.size, 3, none⟩ = some (.slice (some ⟨b, of, none⟩) n cap) ∧ w'.cell? ⟨b, of + i * 4, none⟩ = some (.int .i64 xk) ∧ w'.cell? ⟨b, of + i * 4 + 1, none⟩ = some (.string x_s) ∧ w'.cell? ⟨b, of + i * 4 + 2, none⟩ = some (.int .u64 (xb : Int)) ∧ w'.cell? ⟨b, of + i * 4 + 3, none⟩ = some (.int .u64 (xp : Int))) (go_keep) (first | (go_at_call 29; refine (HWn.out _ (Below.refl _ _).drew).mono ?_; rintro e w9 ⟨rfl, ⟨k2, k3, k4, k5, k6, k7⟩, HL9⟩))
          all_goals
            go_wp2_with fail
            go_roundw
            case rel => exact ⟨i + 1, s + t, by omega, rfl, rfl, hsi, HD2, HL9⟩
            case measure => simp [intOf]; omega
        · have e5 : ((wantsF m nd x).2 != 0) = true := by simp [h5]
          rw [e5]
          have HD2 : Hid (RV = none) := by
            have h6 := HD.out
            simp only [ne_eq, h5, not_false_eq_true, if_true] at h6
            exact h6.symm
          clear HD e5 h5 HRc hle
          go_wp2_with fail
          go_ret2
          exact ⟨by rw [HD2.out]; rfl, HL2.out.below⟩
    · obtain rfl : i = n := by omega
      have ji : ¬ (i : Int) < (i : Int) := by omega
      have HD2 : Hid (RV = some s) := by
        have h6 := HE.out
        rw [List.drop_of_length_le (by rw [HN.out]; exact Nat.le_refl _)] at h6
        exact h6.symm
      clear HE
      go_wp2_with fail
      go_ret2
      exact ⟨by rw [HD2.out]; rfl, HL.out.below⟩
end Go.Proofs.Ytkhlkbgolonkkaa
