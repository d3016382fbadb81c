import Derived.Test.YtlplbbnicfeoaaaGreatPq32
import Derived.Test.YtlplbbnicfeoaaaGreatPq25
import Derived.Test.YtlplbbnicfeoaaaGreatPq24
import Derived.Test.YtlplbbnicfeoaaaGreatPq30
import Derived.Test.YtlplbbnicfeoaaaGreatPq31
import Derived.Test.YtlplbbnicfeoaaaGreatPq08
/- Leaves' iterator where whoever is told keeps rows that grow: what is kept. Own work. -/
namespace Go.Proofs.YtlplbbnicfeoaaaGreat
open Go.RowKit Go.Shelf Wk Lv
/-- a block of a row of leaves, or of numbers of refusals -/
def RowO (o : Obj) : Prop := ∃ c t fr k n, o = .cells c t fr ∧ (t = 26 ∨ t = 28) ∧ c[0]? = some (.int k n)
def Rw (w : World) (k : Nat) : Prop := ∃ o, w.heap[k]? = some o ∧ RowO o
theorem Rw.lt {w : World} {k : Nat} (h : Rw w k) : k < w.heap.size := by
  obtain ⟨o, h, _⟩ := h
  exact (Array.getElem?_eq_some_iff.1 h).1
theorem not_rw {w : World} {k : Nat} {o : Obj} (h : w.heap[k]? = some o) (ho : ¬ RowO o) : ¬ Rw w k := by
  rintro ⟨o', h', h2⟩
  rw [h] at h'
  cases h'
  exact ho h2
theorem not_rowO_loop (r : Loop) : ¬ RowO (.loop r) := by
  rintro ⟨c, t, fr, k, n, h, _⟩
  cases h
theorem not_rowO_deferred {d : Option (List Deferred)} : ¬ RowO (.deferred d) := by
  rintro ⟨c, t, fr, k, n, h, _⟩
  cases h
theorem RecAt.notRw {W : World} {l : Nat} {r : Loop} {st : LoopState} {pe : Option Code} (h : RecAt W l r st pe) : ¬ Rw W l := not_rw h (not_rowO_loop _)
theorem LeftAt.notRw {w : World} {g n : Nat} (h : LeftAt w g n) : ¬ Rw w g := not_rw h (by
  rintro ⟨c, t, fr, k, n, h, ht, _⟩
  cases h
  rcases ht with ht | ht <;> cases ht)
theorem BoxS.notRw {w : World} {g virt : Nat} {lev : Int} {x : Ent} {why : Int} (h : BoxS w g virt lev x why) : ¬ Rw w g := not_rw h (by
  rintro ⟨c, t, fr, k, n, h, ht, _⟩
  cases h
  rcases ht with ht | ht <;> cases ht)
theorem notRw_cell {w : World} {g : Nat} {v : Value} (h : w.cell? ⟨g, 0, none⟩ = some v) (hv : ∀ k n, v ≠ .int k n) : ¬ Rw w g := by
  rintro ⟨o, ho, c, t, fr, k, n, rfl, _, hc⟩
  rw [cell_of_row _ _ _ _ _ _ ho, hc] at h
  injection h with h
  exact hv k n h.symm
/-- only blocks in S and rows changed -/
structure KeepsR (S : Nat → Prop) (w w' : World) : Prop where
  os : w'.os = w.os
  tape : w'.tape = w.tape
  output : w'.output = w.output
  size : w.heap.size ≤ w'.heap.size
  block : ∀ i, i < w.heap.size → ¬ S i → ¬ Rw w i → w'.heap[i]? = w.heap[i]?
theorem Keeps.r {S : Nat → Prop} {w w' : World} (h : Keeps S w w') : KeepsR S w w' := ⟨h.os, h.tape, h.output, h.size, fun i hi hn _ => h.block i hi hn⟩
theorem KeepsR.refl (S : Nat → Prop) (w : World) : KeepsR S w w := (Keeps.refl S w).r
theorem KeepsR.trans {S S' : Nat → Prop} {a b c : World} (h : KeepsR S a b) (k : KeepsR S' b c) (hS : ∀ i, i < a.heap.size → S' i → S i) : KeepsR S a c := by
  refine ⟨k.os.trans h.os, k.tape.trans h.tape, k.output.trans h.output, Nat.le_trans h.size k.size, fun i hi hn hr => ?_⟩
  have e := h.block i hi hn hr
  have hr2 : ¬ Rw b i := fun ⟨o, h1, h2⟩ => hr ⟨o, e ▸ h1, h2⟩
  exact (k.block i (Nat.lt_of_lt_of_le hi h.size) (fun h => hn (hS i hi h)) hr2).trans e
theorem KeepsR.mono {S S' : Nat → Prop} {a b : World} (h : KeepsR S a b) (hS : ∀ i, i < a.heap.size → S i → S' i) : KeepsR S' a b :=
  ⟨h.os, h.tape, h.output, h.size, fun i hi hn => h.block i hi (fun h => hn (hS i hi h))⟩
theorem KeepsR.of_below {S : Nat → Prop} {w w' : World} (h : Below w.heap.size w w') : KeepsR S w w' := (Keeps.of_below h).r
theorem KeepsR.putObj (w : World) (l : Nat) (o : Obj) : KeepsR (fun k => k = l) w (w.putObj l o) := (Keeps.putObj w l o).r
theorem KeepsR.alloc {S : Nat → Prop} (w : World) (o : Obj) : KeepsR S w (w.alloc o) := (Keeps.alloc w o).r
theorem KeepsR.back {Y : Nat → Prop} {w v : World} {l : Nat} {o : Obj} (h : KeepsR (fun k => Y k ∨ k = l) w v) (hw : w.heap[l]? = some o) : KeepsR Y w (v.putObj l o) := by
  have hl : l < w.heap.size := (Array.getElem?_eq_some_iff.1 hw).1
  refine ⟨h.os, h.tape, h.output, by simpa using h.size, fun k hk hn hr => ?_⟩
  by_cases e : k = l
  · subst e
    rw [World.putObj_heap_same (Nat.lt_of_lt_of_le hl h.size), hw]
  · rw [World.putObj_heap_other e]
    exact h.block k hk (fun hh => hh.elim hn e) hr
theorem KeepsR.cell' {Y : Nat → Prop} {w w' : World} {g : Nat} {v : Value} (hk : KeepsR Y w w') (h : w.cell? ⟨g, 0, none⟩ = some v) (hv : ∀ k n, v ≠ .int k n) (hn : ¬ Y g) : w'.cell? ⟨g, 0, none⟩ = some v := by
  have hb := hk.block g (World.block_lt_of_cell? w _ h) hn (notRw_cell h hv)
  unfold World.cell? at h ⊢
  dsimp only at h ⊢
  rw [hb]
  exact h
theorem RecAt.keepsR {Z : Nat → Prop} {W W' : World} {l : Nat} {r : Loop} {st : LoopState} {pe : Option Code} (h : RecAt W l r st pe) (hk : KeepsR Z W W') (hn : ¬ Z l) : RecAt W' l r st pe := (hk.block l h.lt hn h.notRw).trans h
theorem LeftAt.keepsR {Z : Nat → Prop} {w w' : World} {g n : Nat} (h : LeftAt w g n) (hk : KeepsR Z w w') (hn : ¬ Z g) : LeftAt w' g n := (hk.block g h.lt hn h.notRw).trans h
theorem BoxS.keepsR {Z : Nat → Prop} {w w' : World} {g virt : Nat} {lev : Int} {x : Ent} {why : Int} (h : BoxS w g virt lev x why) (hk : KeepsR Z w w') (hn : ¬ Z g) : BoxS w' g virt lev x why := (hk.block g h.lt hn h.notRw).trans h
/-- nothing below n changed, nor any row -/
structure BelowR (n : Nat) (w w' : World) : Prop where
  os : w'.os = w.os
  tape : w'.tape = w.tape
  output : w'.output = w.output
  size : w.heap.size ≤ w'.heap.size
  block : ∀ i, i < w.heap.size → (i < n ∨ Rw w i) → w'.heap[i]? = w.heap[i]?
theorem BelowR.of_below {n : Nat} {w w' : World} (h : Below w.heap.size w w') : BelowR n w w' := ⟨h.os, h.tape, h.output, h.size, fun i hi _ => h.block i hi⟩
theorem BelowR.of_keeps {n : Nat} {S : Nat → Prop} {w w' : World} (h : Keeps S w w') (hS : ∀ i, i < w.heap.size → S i → n ≤ i ∧ ¬ Rw w i) : BelowR n w w' :=
  ⟨h.os, h.tape, h.output, h.size, fun i hi hh => h.block i hi (fun hs => by
    obtain ⟨h1, h2⟩ := hS i hi hs
    rcases hh with hh | hh
    · omega
    · exact h2 hh)⟩
theorem BelowR.putObj {n : Nat} {w : World} {l : Nat} {o o' : Obj} (hl : n ≤ l) (h : w.heap[l]? = some o') (ho : ¬ RowO o') : BelowR n w (w.putObj l o) := BelowR.of_keeps (Keeps.putObj w l o) (fun i _ e => by
  have e : i = l := e
  subst e
  exact ⟨hl, not_rw h ho⟩)
theorem BelowR.recAt {n : Nat} {w : World} {l : Nat} {o : Obj} {r : Loop} {st : LoopState} {pe : Option Code} (hl : n ≤ l) (h : RecAt w l r st pe) : BelowR n w (w.putObj l o) := BelowR.putObj hl h (not_rowO_loop _)
theorem BelowR.alloc {n : Nat} (w : World) (o : Obj) : BelowR n w (w.alloc o) := BelowR.of_below ((Below.refl _ _).alloc (Nat.le_refl _) _)
namespace Lv
section
variable {σ : Type} {lk : σ → Nat → Nat → Nat → (Ent × Int) × σ} {yd : σ → Slt → σ} {ct : σ → Slt → Bool} {live : σ → Prop} {bud : σ → Nat}
/-- as many are left as must be, no more are told than may be, and whoever is told goes on -/
structure FineR (live : σ → Prop) (bud : σ → Nat) (L : Nat) (t : St σ) : Prop where
  pos : t.go = true → 1 ≤ t.left
  most : bud t.s + t.left ≤ L
  live : t.go = true → live t.s
structure LivesR (lk : σ → Nat → Nat → Nat → (Ent × Int) × σ) (yd : σ → Slt → σ) (ct : σ → Slt → Bool) (live : σ → Prop) (bud : σ → Nat) : Prop where
  ll : ∀ s a b c, live s → live (lk s a b c).2
  ly : ∀ s x, live s → ct s x = true → live (yd s x)
  bl : ∀ s a b c, bud (lk s a b c).2 ≤ bud s
  bY : ∀ s x, bud (yd s x) ≤ bud s + 1
theorem visit_finer (hL : LivesR lk yd ct live bud) {L : Nat} {t : St σ} (hgo : t.go = true) (h : FineR live bud L t) (y : Slt) : FineR live bud L (visitS yd ct t y) := by
  unfold visitS
  have := h.most
  have hp := h.pos hgo
  have hy := hL.bY t.s y
  split
  · exact ⟨fun e => by have e' := of_decide_eq_true e; show 1 ≤ t.left - 1; omega, by show bud t.s + (t.left - 1) ≤ L; omega, fun _ => h.live hgo⟩
  · refine ⟨fun e => ?_, by show bud (yd t.s y) + (t.left - 1) ≤ L; omega, fun e => ?_⟩
    · have e' : (ct t.s y && decide (1 < t.left)) = true := e
      rw [Bool.and_eq_true] at e'
      have := of_decide_eq_true e'.2
      show 1 ≤ t.left - 1
      omega
    · have e' : (ct t.s y && decide (1 < t.left)) = true := e
      rw [Bool.and_eq_true] at e'
      exact hL.ly _ _ (h.live hgo) e'.1
theorem aft_finer (hL : LivesR lk yd ct live bud) {L : Nat} {deep : Nat → Nat → Nat → St σ → St σ} (hd : ∀ a b c t, FineR live bud L t → FineR live bud L (deep a b c t)) {t : St σ} (hgo : t.go = true) (h : FineR live bud L t) (y : Slt) : FineR live bud L (aft yd ct deep t y) := by
  unfold aft
  split
  · exact hd _ _ _ _ (visit_finer hL hgo h y)
  · exact visit_finer hL hgo h y
theorem look_finer (hL : LivesR lk yd ct live bud) {L : Nat} {t : St σ} (h : FineR live bud L t) (a b c : Nat) : FineR live bud L { t with s := (lk t.s a b c).2 } :=
  ⟨h.pos, by have := hL.bl t.s a b c; have := h.most; show bud (lk t.s a b c).2 + t.left ≤ L; omega, fun e => hL.ll _ _ _ _ (h.live e)⟩
theorem tab_finer (hL : LivesR lk yd ct live bud) {L : Nat} {deep : Nat → Nat → Nat → St σ → St σ} (hd : ∀ a b c t, FineR live bud L t → FineR live bud L (deep a b c t)) (fr virt lev : Nat) {t : St σ} (h : FineR live bud L t) : ∀ i, FineR live bud L (tabN lk yd ct deep fr virt lev i t)
  | 0 => h
  | i + 1 => by
    have hi := tab_finer hL hd fr virt lev h i
    rw [tabN]
    split
    · rename_i hgo
      by_cases h41 : (lk (tabN lk yd ct deep fr virt lev i t).s fr i lev).1.2 = 41
      · rw [step_absent h41]
        exact look_finer hL hi _ _ _
      · rw [step_aft h41]
        refine aft_finer hL hd ?_ (look_finer hL hi _ _ _) _
        exact hgo
    · exact hi
theorem finer3 {L : Nat} (a b c : Nat) (t : St σ) (h : FineR live bud L t) : FineR live bud L (deep3 a b c t) := h
theorem finer2 (hL : LivesR lk yd ct live bud) {L : Nat} (a b c : Nat) (t : St σ) (h : FineR live bud L t) : FineR live bud L (deep2 lk yd ct a b c t) := tab_finer hL finer3 a b c h 512
theorem finer1 (hL : LivesR lk yd ct live bud) {L : Nat} (a b c : Nat) (t : St σ) (h : FineR live bud L t) : FineR live bud L (deep1 lk yd ct a b c t) := tab_finer hL (finer2 hL) a b c h 512
end
end Lv
end Go.Proofs.YtlplbbnicfeoaaaGreat
/- Rows of leaves and of refusals, as whoever is told writes them. Own work. -/
namespace Go.Proofs.YtlplbbnicfeoaaaGreat
open Go.RowKit Go.Maps Go.Proofs.YtlplbbnicfeoaaaGreat.Sp Wk Lv
/-- what is told: where it begins, where it lies, how many pages, big, write, exec; why not -/
abbrev Lf := Nat × Nat × Nat × Bool × Bool × Bool × Int
def lfOf (x : Slt) : Lf := (x.1, x.2.2.1.1, pgs x.2.1, x.2.2.1.2.2.1, x.2.2.1.2.2.2.1, x.2.2.1.2.2.2.2, x.2.2.2)
def encLf6 (x : Lf) : List Value := [.int .u64 (x.1 : Int), .int .u64 (x.2.1 : Int), .int .i64 (x.2.2.1 : Int), .bool x.2.2.2.1, .bool x.2.2.2.2.1, .bool x.2.2.2.2.2.1]
def encLf6s (xs : List Lf) : List Value := xs.flatMap encLf6
theorem encLf6s_length (xs : List Lf) : (encLf6s xs).length = xs.length * 6 := by
  induction xs with
  | nil => rfl
  | cons x xs ih => simp only [encLf6s, List.flatMap_cons, List.length_append, List.length_cons] at ih ⊢; rw [ih]; simp only [encLf6, List.length_cons, List.length_nil]; omega
theorem encLf6s_append (xs ys : List Lf) : encLf6s (xs ++ ys) = encLf6s xs ++ encLf6s ys := by simp [encLf6s]
theorem encLf6s_one (xs : List Lf) : ∀ u ∈ encLf6s xs, u.oneCell' = true := by
  intro u hu
  obtain ⟨x, _, h⟩ := List.mem_flatMap.1 hu
  simp only [encLf6, List.mem_cons, List.not_mem_nil, or_false] at h
  rcases h with rfl | rfl | rfl | rfl | rfl | rfl <;> rfl
theorem encLf6s_get (xs : List Lf) (j k : Nat) (h : j < xs.length) (hk : k < 6) : (encLf6s xs)[j * 6 + k]? = (encLf6 xs[j])[k]? := by
  induction xs generalizing j with
  | nil => simp at h
  | cons x xs ih =>
    have hl : (encLf6 x).length = 6 := rfl
    cases j with
    | zero =>
      rw [show encLf6s (x :: xs) = encLf6 x ++ encLf6s xs from rfl, List.getElem?_append_left (by omega), Nat.zero_mul, Nat.zero_add]
      rfl
    | succ j =>
      have := ih j (by simpa using h)
      rw [show encLf6s (x :: xs) = encLf6 x ++ encLf6s xs from rfl, List.getElem?_append_right (by omega), show (j + 1) * 6 + k - (encLf6 x).length = j * 6 + k by omega]
      exact this
/-- a row of what was told that is owned from base on -/
def OwnLf6 (w : World) (base : Nat) (v : Value) (ps : List Lf) : Prop := w.ownsRow base 26 6 v ps.length (encLf6s ps)
theorem OwnLf6.keeps {Z : Nat → Prop} {w w' : World} {base : Nat} {v : Value} {ps : List Lf} (h : OwnLf6 w base v ps) (hk : Keeps Z w w') (hn : ∀ k, v.ownBlock = some k → ¬ Z k) : OwnLf6 w' base v ps := by
  refine ⟨h.1, ?_⟩
  rcases h.2 with hv | ⟨g, cap, cur, rfl, hbb, hgg, rest⟩
  · exact .inl hv
  · exact .inr ⟨g, cap, cur, rfl, hbb, (hk.block g (Array.getElem?_eq_some_iff.1 hgg).1 (hn g rfl)).trans hgg, rest⟩
theorem OwnLf6.form {w : World} {base : Nat} {v : Value} {ps : List Lf} (h : OwnLf6 w base v ps) : ∃ a c, v = .slice a ps.length c ∧ ps.length ≤ c ∧ c ≤ maxLen ∧ ∀ k, v.ownBlock = some k → base ≤ k ∧ ∃ cur, w.heap[k]? = some (.cells cur 26 (0, 0)) := by
  rcases h.2 with ⟨rfl, h0⟩ | ⟨g, cap, cur, rfl, hbb, hgg, h1, h2, _⟩
  · exact ⟨none, 0, by rw [h0], by omega, Nat.zero_le _, fun k e => by cases e⟩
  · exact ⟨_, cap, rfl, h1, h2, fun k e => by cases e; exact ⟨hbb, cur, hgg⟩⟩
theorem OwnLf6.cell {w : World} {base : Nat} {a : Option Addr} {n c : Nat} {ps : List Lf} (h : OwnLf6 w base (.slice a n c) ps) (j : Nat) (hj : j < ps.length) : ∃ g, a = some ⟨g, 0, none⟩ ∧ ∀ k, k < 6 → w.cell? ⟨g, j * 6 + k, none⟩ = (encLf6 ps[j])[k]? := by
  rcases h.2 with ⟨e, h0⟩ | ⟨g, cap, cur, e, hbb, hgg, h1, h2, h3, h4⟩
  · omega
  · cases e
    refine ⟨g, rfl, fun k hk => ?_⟩
    rw [cell_of_row w g (j * 6 + k) _ _ _ hgg, ← Array.getElem?_toList, ← encLf6s_get ps j k hj hk, ← h4, List.getElem?_take_of_lt (by omega)]
theorem info_Lf6 : (Tryz.prog.info? 26).map (fun i => (i.zero, i.size, i.bytes)) = some (some (.agg #[.int .u64 0, .int .u64 0, .int .i64 0, .bool false, .bool false, .bool false]), 6, 32) := by kernel_rfl
theorem run_appLf6 {w : World} {base : Nat} {v : Value} {ps : List Lf} {x : Lf} {g cap : Nat} (ty : TypeId) (hv : OwnLf6 w base v ps) (hx : ∀ k, k < 6 → w.cell? ⟨g, k, none⟩ = (encLf6 x)[k]?) (hlen : ps.length ≤ 1099511627776) (hbase : base ≤ w.heap.size) :
    ∃ v' w', (Builtin.append_ #[22, 22] ty #[v, .slice (some ⟨g, 0, none⟩) 1 cap]).run Tryz.prog w = .ok v' w' ∧ OwnLf6 w' base v' (ps ++ [x]) ∧ w.grownBy w' v.ownBlock := by
  obtain ⟨i, hi, hz0, hz1, hz2⟩ := info_parts info_Lf6
  obtain ⟨v', w', r1, r2, r3, _⟩ := run_append_own_at (P := Tryz.prog) w base 22 ty 26 i _ 6 _ Tryz.underlying22 hi hz0 hz1 hz2 rfl (by omega) v ps.length (encLf6s ps) hv ⟨g, 0, none⟩ 1 cap (encLf6 x) rfl (fun j u hj => by
    have hj2 : j < 6 := by have := (List.getElem?_eq_some_iff.1 hj).1; simpa [encLf6] using this
    rw [Addr.add_lit, Nat.zero_add, hx j hj2]
    exact hj) (fun u hu => encLf6s_one [x] u (by simpa [encLf6s] using hu)) (by unfold maxLen; omega) (by omega) hbase
  refine ⟨v', w', r1, ?_, r3⟩
  unfold OwnLf6
  rw [List.length_append, encLf6s_append]
  have e : encLf6s [x] = encLf6 x := by simp [encLf6s]
  rw [e]
  exact r2
theorem OwnLf6.nil (w : World) (base : Nat) : OwnLf6 w base (.slice none 0 0) [] := World.ownsRow_nil w base 26 6
theorem OwnLf6.rw {w : World} {base : Nat} {v : Value} {ps : List Lf} (h : OwnLf6 w base v ps) (hne : 0 < ps.length) : ∀ k, v.ownBlock = some k → Rw w k := by
  intro k hk
  obtain ⟨a, c, rfl, _, _, hf⟩ := h.form
  obtain ⟨_, cur, hc⟩ := hf k hk
  obtain ⟨g, rfl, hg⟩ := h.cell 0 hne
  have hg0 := hg 0 (by omega)
  cases hk
  rw [Nat.zero_mul, cell_of_row _ _ _ _ _ _ hc] at hg0
  exact ⟨_, hc, cur, _, _, _, _, rfl, .inl rfl, hg0⟩
theorem OwnLf6.belowR {n : Nat} {w w' : World} {base : Nat} {v : Value} {ps : List Lf} (h : OwnLf6 w base v ps) (hr : ∀ k, v.ownBlock = some k → Rw w k) (hb : BelowR n w w') : OwnLf6 w' base v ps ∧ ∀ k, v.ownBlock = some k → Rw w' k := by
  refine ⟨⟨h.1, ?_⟩, fun k e => ?_⟩
  · rcases h.2 with hv | ⟨g, cap, cur, rfl, hbb, hgg, rest⟩
    · exact .inl hv
    · exact .inr ⟨g, cap, cur, rfl, hbb, (hb.block g (Array.getElem?_eq_some_iff.1 hgg).1 (.inr (hr g rfl))).trans hgg, rest⟩
  · obtain ⟨o, h1, h2⟩ := hr k e
    exact ⟨o, (hb.block k (Array.getElem?_eq_some_iff.1 h1).1 (.inr ⟨o, h1, h2⟩)).trans h1, h2⟩
/-- append, under a name of its own -/
noncomputable def appLf6 (ty : TypeId) (args : Array Value) : Sem Next := do pure (.value (← Builtin.append_ #[22, 22] ty args))
theorem appLf6_eq (ty : TypeId) (cs : Array Bool) (args : Array Value) : builtin .append #[22, 22] ty cs args = appLf6 ty args := rfl
theorem appLf6_run {ty : TypeId} {args : Array Value} {w w' : World} {v : Value} (h : (Builtin.append_ #[22, 22] ty args).run Tryz.prog w = .ok v w') : (appLf6 ty args).run Tryz.prog w = .ok (.value v) w' := by
  unfold appLf6
  simp only [Sem.run_bind, Sem.run_pure, h, Result.andThen_ok]
theorem KeepsR.of_grown {S : Nat → Prop} {w w' : World} {row : Option Nat} (h : w.grownBy w' row) (hr : ∀ k, row = some k → Rw w k) : KeepsR S w w' := ⟨h.os, h.tape, h.output, h.size, fun i hi _ hn => h.block i hi (fun e => hn (hr i e.symm))⟩
theorem Rw.keeps {Z : Nat → Prop} {w w' : World} {k : Nat} (h : Rw w k) (hk : Keeps Z w w') (hn : ¬ Z k) : Rw w' k := by
  obtain ⟨o, h1, h2⟩ := h
  exact ⟨o, (hk.block k (Array.getElem?_eq_some_iff.1 h1).1 hn).trans h1, h2⟩
/-- a box that holds a slice -/
def SlAt (w : World) (g : Nat) (t : TypeId) (v : Value) : Prop := w.heap[g]? = some (.cells #[v] t (0, 0))
theorem SlAt.lt {w : World} {g : Nat} {t : TypeId} {v : Value} (h : SlAt w g t v) : g < w.heap.size := (Array.getElem?_eq_some_iff.1 (show w.heap[g]? = _ from h)).1
theorem SlAt.keeps {Z : Nat → Prop} {w w' : World} {g : Nat} {t : TypeId} {v : Value} (h : SlAt w g t v) (hk : Keeps Z w w') (hn : ¬ Z g) : SlAt w' g t v := (hk.block g h.lt hn).trans h
theorem SlAt.below {w w' : World} {g : Nat} {t : TypeId} {v : Value} (h : SlAt w g t v) (hb : Below w.heap.size w w') : SlAt w' g t v := (hb.block g h.lt).trans h
theorem SlAt.cell {w : World} {g : Nat} {t : TypeId} {v : Value} (h : SlAt w g t v) : w.cell? ⟨g, 0, none⟩ = some v ∧ w.frozen? ⟨g, 0, none⟩ = false := by
  have h' : w.heap[g]? = _ := h
  simp [World.cell?, World.frozen?, h']
theorem SlAt.set {w : World} {g : Nat} {t : TypeId} {v : Value} (h : SlAt w g t v) (u : Value) : SlAt (w.setCell ⟨g, 0, none⟩ u) g t u := by
  have h' : w.heap[g]? = _ := h
  simp [SlAt, World.setCell, Array.getElem?_modify, h']
end Go.Proofs.YtlplbbnicfeoaaaGreat
/- Whoever is told keeps one row: it grows. Own work. -/
namespace Go.Proofs.YtlplbbnicfeoaaaGreat
open Go.RowKit Go.Maps Go.Proofs.YtlplbbnicfeoaaaGreat.Sp Wk Lv
theorem SlAt.notRw {w : World} {g : Nat} {t : TypeId} {v : Value} (h : SlAt w g t v) (ht : t ≠ 26 ∧ t ≠ 28) : ¬ Rw w g := not_rw h (by
  rintro ⟨c, t', fr, k, n, h, h2, _⟩
  cases h
  rcases h2 with h2 | h2
  · exact ht.1 h2
  · exact ht.2 h2)
/-- the row and its box -/
def Rows1 (bl base : Nat) (L : List Lf) (W : World) : Prop :=
  ∃ vl, SlAt W bl 22 vl ∧ OwnLf6 W base vl L ∧ (∀ k, vl.ownBlock = some k → Rw W k)
theorem Rows1.belowR {n bl base : Nat} {L : List Lf} {W W' : World} (h : Rows1 bl base L W) (hb : BelowR n W W') (h1 : bl < n) : Rows1 bl base L W' := by
  obtain ⟨vl, s1, o1, r1⟩ := h
  obtain ⟨p1, p2⟩ := o1.belowR r1 hb
  exact ⟨vl, (hb.block bl s1.lt (.inl h1)).trans s1, p1, p2⟩
theorem Rows1.keeps {Z : Nat → Prop} {bl base : Nat} {L : List Lf} {W W' : World} (h : Rows1 bl base L W) (hk : Keeps Z W W') (h1 : ¬ Z bl) (h3 : ∀ k, Rw W k → ¬ Z k) : Rows1 bl base L W' := by
  obtain ⟨vl, s1, o1, r1⟩ := h
  exact ⟨vl, s1.keeps hk h1, o1.keeps hk (fun k e => h3 k (r1 k e)), fun k e => (r1 k e).keeps hk (h3 k (r1 k e))⟩
theorem OwnLf6.form' {w : World} {base : Nat} {v : Value} {ps : List Lf} (h : OwnLf6 w base v ps) : ∃ a n c, v = .slice a n c ∧ n = ps.length ∧ c ≤ maxLen := by
  obtain ⟨a, c, h1, _, h2, _⟩ := h.form
  exact ⟨a, _, c, h1, rfl, h2⟩
/-- what the append leaves -/
theorem tellA {bl base : Nat} {L : List Lf} {W : World} (x : Lf) (h : Rows1 bl base L W) (hlen : L.length ≤ 1099511627776) (hbase : base ≤ W.heap.size) :
    ∃ (a : Option Addr) (n c : Nat) (a2 : Option Addr) (n2 c2 : Nat) (w2 : World), W.cell? ⟨bl, 0, none⟩ = some (.slice a n c) ∧ (appLf6 22 #[.slice a n c, .slice (some ⟨W.heap.size, 0, none⟩) 1 1]).run Tryz.prog (W.alloc (Obj.cells #[.int .u64 (x.1 : Int), .int .u64 (x.2.1 : Int), .int .i64 (x.2.2.1 : Int), .bool x.2.2.2.1, .bool x.2.2.2.2.1, .bool x.2.2.2.2.2.1] 26)) = .ok (.value (.slice a2 n2 c2)) w2 ∧ w2.cell? ⟨bl, 0, none⟩ = some (.slice a n c) ∧ w2.frozen? ⟨bl, 0, none⟩ = false ∧ KeepsR (fun k => k = bl) W (w2.setCell ⟨bl, 0, none⟩ (.slice a2 n2 c2)) ∧ Keeps (fun k => k = bl ∨ base ≤ k) W (w2.setCell ⟨bl, 0, none⟩ (.slice a2 n2 c2)) ∧ Rows1 bl base (L ++ [x]) (w2.setCell ⟨bl, 0, none⟩ (.slice a2 n2 c2)) := by
  obtain ⟨vl, s1, o1, r1⟩ := h
  obtain ⟨a, n, c, rfl, _, _⟩ := o1.form'
  obtain ⟨Wc, hWc⟩ : ∃ Wc, W.alloc (Obj.cells #[.int .u64 (x.1 : Int), .int .u64 (x.2.1 : Int), .int .i64 (x.2.2.1 : Int), .bool x.2.2.2.1, .bool x.2.2.2.2.1, .bool x.2.2.2.2.2.1] 26) = Wc := ⟨_, rfl⟩
  have hb : Below W.heap.size W Wc := hWc ▸ (Below.refl _ _).alloc (Nat.le_refl _) _
  have hk : Keeps (fun _ => False) W Wc := Keeps.of_below hb
  have o1c := o1.keeps hk (fun _ _ e => e)
  have hx : ∀ k, k < 6 → Wc.cell? ⟨W.heap.size, k, none⟩ = (encLf6 x)[k]? := fun k hk => by
    rw [← hWc, cell_of_row _ _ _ _ _ _ (heap_alloc_new W _)]
    match k, hk with
    | 0, _ => rfl
    | 1, _ => rfl
    | 2, _ => rfl
    | 3, _ => rfl
    | 4, _ => rfl
    | 5, _ => rfl
  obtain ⟨v2, w2, hr, ho, hg⟩ := run_appLf6 (cap := 1) 22 o1c hx hlen (Nat.le_trans hbase hb.size)
  obtain ⟨a2, n2, c2, rfl, _, _⟩ := ho.form'
  rw [hWc]
  have r1c : ∀ k, (Value.slice a n c).ownBlock = some k → Rw Wc k := fun k e => (r1 k e).keeps hk (fun e => e)
  have kg : Keeps (fun k => (Value.slice a n c).ownBlock = some k) Wc w2 := Keeps.of_grown hg
  have s1c : SlAt Wc bl 22 (.slice a n c) := s1.below hb
  have n1 : ¬ (Value.slice a n c).ownBlock = some bl := fun e => s1c.notRw (by decide) (r1c bl e)
  have s1w : SlAt w2 bl 22 (.slice a n c) := s1c.keeps kg n1
  have ks := Keeps.setCell w2 bl 0 (.slice a2 n2 c2)
  have hro : ∀ k, (Value.slice a2 n2 c2).ownBlock = some k → Rw w2 k := ho.rw (by rw [List.length_append, List.length_singleton]; omega)
  have hown : ∀ k, (Value.slice a n c).ownBlock = some k → base ≤ k := fun k e => by
    obtain ⟨_, _, _, _, _, f1⟩ := o1.form
    exact (f1 k e).1
  have hno : ∀ k, (Value.slice a2 n2 c2).ownBlock = some k → ¬ k = bl := fun k e e' => by
    subst e'
    exact s1w.notRw (by decide) (hro k e)
  refine ⟨a, n, c, a2, n2, c2, w2, s1.cell.1, appLf6_run hr, s1w.cell.1, s1w.cell.2, ?_, ?_, _, s1w.set _, ho.keeps ks hno, fun k e => (hro k e).keeps ks (hno k e)⟩
  · exact ((hk.r.mono (S' := fun k => k = bl) (fun _ _ e => e.elim)).trans (KeepsR.of_grown (S := fun _ => False) hg r1c) (fun _ _ e => e.elim)).trans ks.r (fun _ _ e => e)
  · exact ((hk.mono (S' := fun k => k = bl ∨ base ≤ k) (fun _ _ e => e.elim)).trans kg (fun k _ e => .inr (hown k e))).trans ks (fun _ _ e => .inl e)
end Go.Proofs.YtlplbbnicfeoaaaGreat
/- Pages: what is told of the tables, as rows. Own work. -/
namespace Go.Proofs.YtlplbbnicfeoaaaGreat
open Go.RowKit Go.Maps Go.Proofs.YtlplbbnicfeoaaaGreat.Sp Wk Lv
set_option linter.unusedVariables false
set_option maxRecDepth 20000
theorem unit_pages {x : L6} (hx : aloneF x = 0) : cntU x * (unitF x / 4096) = x.n.toNat ∧ cntU x ≤ x.n.toNat := by
  obtain ⟨hm, h1⟩ := cntU_mul hx
  rcases unitF_cases x with ⟨_, e⟩ | ⟨_, e⟩
  · rw [e] at hm ⊢
    rw [show 2097152 / 4096 = 512 from rfl]
    omega
  · rw [e] at hm ⊢
    rw [show 4096 / 4096 = 1 from rfl]
    omega
theorem sum_range {x : L6} : ∀ n, sumN ((unitsN x n).map rowU) = n * (unitF x / 4096)
  | 0 => by rw [Nat.zero_mul]; rfl
  | n + 1 => by
    rw [unitsN_succ, List.map_append, sumN_app, sum_range n, Nat.add_mul, Nat.one_mul]
    show _ + ((((unitAt x n).len / 4096 : Nat) : Int).toNat + 0) = _
    rw [unitAt_len, Int.toNat_natCast]
    omega
theorem units_sum : ∀ {xs : List L6} {t : Nat}, refuF t xs = 0 → (units xs).length ≤ sumN xs ∧ sumN (eachF xs) = sumN xs
  | [], _, _ => ⟨Nat.le_refl _, rfl⟩
  | x :: xs, t, hr => by
    obtain ⟨h1, h2, h3⟩ := refuF_zero hr
    obtain ⟨p1, p2⟩ := units_sum h3
    obtain ⟨q1, q2⟩ := unit_pages h1
    have e : units (x :: xs) = unitsL x ++ units xs := by unfold units; rw [List.flatMap_cons]
    have hl : (unitsL x).length = cntU x := by unfold unitsL unitsN; rw [List.length_map, List.length_range]
    have hs : sumN (x :: xs) = x.n.toNat + sumN xs := rfl
    refine ⟨by rw [e, List.length_append, hl, hs]; omega, ?_⟩
    unfold eachF at p2 ⊢
    rw [e, List.map_append, sumN_app, p2, hs]
    unfold unitsL
    rw [sum_range, q1]
theorem tb_of {xs : List L6} {base n : Nat} (hy : whyF xs base = 0) (hn : tabsF 1 0 0 xs = n) (hs : sumN xs ≤ 5000) : Tb (units xs) base n 8001 (buildU base bst0 (units xs)) (fun a l => lookF (rs1 base n ++ []) (entM base (bldM xs base) (n * 512)) a (l : Int)) := by
  obtain ⟨hr, _, hn4, hb4, hbl⟩ := why_zero hy
  have hnx := bld_nx base hr
  rw [hn] at hnx hn4 hbl
  have hl := (units_sum hr).1
  exact ⟨(kn_full base hr).2, (kn_full base hr).1, hnx, units_fit hr, (units_pair hr).1, fun k l hk => look_ent _ hk (by have := bld_word hy k; omega), hb4, hbl, by omega⟩
theorem enc_told : ∀ us : List Un, encLf6s ((us.map sltU).map lfOf) = encLs (us.map rowU)
  | [] => rfl
  | u :: us => by
    have ih := enc_told us
    have e1 : encLf6s (((u :: us).map sltU).map lfOf) = encLf6 (lfOf (sltU u)) ++ encLf6s ((us.map sltU).map lfOf) := rfl
    have e2 : encLs ((u :: us).map rowU) = encL (rowU u) ++ encLs (us.map rowU) := rfl
    rw [e1, e2, ih]
    congr 1
    obtain ⟨v, p, b, wr, ex⟩ := u
    cases b <;> simp [encLf6, lfOf, sltU, encL, rowU, Un.len, pgs]
theorem own_told {w : World} {base : Nat} {v : Value} {xs : List L6} (h : OwnLf6 w base v (((units xs).map sltU).map lfOf)) : OwnL w base v (eachF xs) := by
  unfold OwnLf6 at h
  rw [enc_told, List.length_map, List.length_map] at h
  unfold OwnL eachF
  rw [List.length_map]
  exact h
theorem row_pages (u : Un) : (u.big = true ∧ (rowU u).n = 512) ∨ (u.big = false ∧ (rowU u).n = 1) := by
  obtain ⟨v, p, b, wr, ex⟩ := u
  cases b
  · exact .inr ⟨rfl, by simp [rowU, Un.len]⟩
  · exact .inl ⟨rfl, by simp [rowU, Un.len]⟩
theorem livesQ (f : Nat → Nat → Ent × Int) : LivesR (lkQ f) ydQ ctQ (fun s => ∀ x ∈ s.2, x.2.2.2 = 0) (fun s => s.2.length) :=
  ⟨fun s a b c h => h, fun s x h hc y hy => by
    rcases List.mem_append.1 hy with hy | hy
    · exact h y hy
    · rw [List.mem_singleton.1 hy]
      exact of_decide_eq_true hc, fun _ _ _ _ => Nat.le_refl _, fun s x => by show (s.2 ++ [x]).length ≤ _; simp⟩
theorem cntQ (f : Nat → Nat → Ent × Int) (root left : Nat) : (allS (lkQ f) ydQ ctQ root { s := (0, []), left := left, go := true }).s.1 ≤ 134480384 := by
  have h := cnt_tab (lk := lkQ f) (yd := ydQ) (ct := ctQ) (cnt := fun s : Nat × List Slt => s.1) (fun s a b c => Nat.le_refl _) (fun s x => Nat.le_refl _) (cnt1 (lk := lkQ f) (yd := ydQ) (ct := ctQ) (cnt := fun s : Nat × List Slt => s.1) (fun s a b c => Nat.le_refl _) (fun s x => Nat.le_refl _)) root 0 0 { s := (0, []), left := left, go := true } 512
  have e : (0 : Nat) + 512 * (262656 + 1) = 134480384 := by decide
  rw [← e]
  exact h
end Go.Proofs.YtlplbbnicfeoaaaGreat
