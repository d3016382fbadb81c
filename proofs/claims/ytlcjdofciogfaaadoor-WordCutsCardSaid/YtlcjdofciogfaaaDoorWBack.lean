/- WordBack: what is laid is taken back. Own work. -/
import Derived.Test.YtlcjdofciogfaaaDoorOpRow
import Derived.Deep.RegionHeld3
namespace Go.Proofs.YtlcjdofciogfaaaDoor
open Go.RowKit
/-- the step that goes first -/
def firstB : OpV := ⟨6, 0, 0, 0, .slice none 0 0, [], ⟨#[97, 98]⟩⟩
theorem first_lay : layF [] firstB = ([2, 0, 97, 98], 0) := by decide
/-- where the first loop stands: the writer, the steps that it took -/
def Stt (w wr : World) (p : Nat) (vs : Value) (os : List OpV) (k n : Nat) : Prop :=
  ∃ v zs why ss, Wr wr p v zs why p ∧ Steps wr w.heap.size vs (firstB :: ss) ∧ LaidL [] (firstB :: ss) zs ∧ n = zs.length ∧ zs.length ≤ 4 + total (os.take k) ∧ ss.length ≤ k ∧ (∀ o ∈ ss, Sl w o.pv o.ps ∧ o.n < 18446744073709551616) ∧ Below w.heap.size w wr ∧ (∀ g, vs.ownBlock = some g → g ≠ p ∧ v.ownBlock ≠ some g) ∧ w.heap.size ≤ p
theorem Stt.alloc {w wr : World} {p : Nat} {vs : Value} {os : List OpV} {k n : Nat} (h : Stt w wr p vs os k n) (X : Obj) : Stt w (wr.alloc X) p vs os k n := by
  obtain ⟨v, zs, why, ss, h1, h2, h3, h4, h5, h6, h7, h8, h9, h10⟩ := h
  exact ⟨v, zs, why, ss, h1.alloc X, h2.keeps (Keeps.alloc (S := fun _ => False) wr X) (fun _ _ h => h), h3, h4, h5, h6, h7, h8.alloc h8.size X, h9, h10⟩
theorem Stt.more {w wr : World} {p : Nat} {vs : Value} {os : List OpV} {k n : Nat} (h : Stt w wr p vs os k n) (hk : k < os.length) : Stt w wr p vs os (k + 1) n := by
  obtain ⟨v, zs, why, ss, h1, h2, h3, h4, h5, h6, h7, h8, h9, h10⟩ := h
  exact ⟨v, zs, why, ss, h1, h2, h3, h4, by rw [total_take_succ hk]; omega, by omega, h7, h8, h9, h10⟩
theorem total_take_le (os : List OpV) (k : Nat) : total (os.take k) ≤ total os := by
  induction os generalizing k with
  | nil => simp
  | cons o os ih =>
    cases k with
    | zero => simp [total]
    | succ k => simp only [List.take_succ_cons, total]; have := ih k; omega
theorem len_le_total (os : List OpV) : os.length ≤ total os := by
  induction os with
  | nil => exact Nat.le_refl _
  | cons o os ih => simp only [List.length_cons, total, cost]; omega
theorem cost_le {os : List OpV} {k : Nat} (hk : k < os.length) : cost os[k] ≤ total os := by
  have h1 := total_take_succ hk
  have h2 := total_take_le os (k + 1)
  omega
/-- the writer has refused: nothing comes of the step -/
theorem stt_not {w wr : World} {p : Nat} {vs : Value} {os : List OpV} {k n : Nat} {v : Value} {zs : List Nat} {why : Int} {op : OpV} (hw : Wr wr p v zs why p) (hy : why ≠ 0) (ho : Sl wr op.pv op.ps) (h : Stt w wr p vs os k n) (hk : k < os.length) :
    Calls Tryd.prog 16 #[.pointer (some ⟨p, 0, none⟩), .agg op.vals] wr fun e w' => e = .returned (.bool false) ∧ Hid (Stt w w' p vs os (k + 1) n) := by
  refine (laid_not hw hy ho).mono ?_
  rintro e w' ⟨rfl, X, rfl⟩
  exact ⟨rfl, (h.more hk).alloc X⟩
/-- the writer takes it, or refuses it -/
theorem stt_laid {w wr : World} {p : Nat} {vs : Value} {os : List OpV} {k : Nat} {v : Value} {zs : List Nat} {ss : List OpV} {op : OpV} (ht : Tab w) (hw : Wr wr p v zs 0 p) (hs : Steps wr w.heap.size vs (firstB :: ss)) (hL : LaidL [] (firstB :: ss) zs) (hz : zs.length ≤ 4 + total (os.take k)) (hl : ss.length ≤ k) (hS : ∀ o ∈ ss, Sl w o.pv o.ps ∧ o.n < 18446744073709551616)
    (hB : Below w.heap.size w wr) (hsep : ∀ g, vs.ownBlock = some g → g ≠ p ∧ v.ownBlock ≠ some g) (hwp : w.heap.size ≤ p) (htot : total os ≤ 2147483647) (hk : k < os.length) (hop : op = os[k]) (ho : Sl wr op.pv op.ps) (hn : op.n < 18446744073709551616) :
    Calls Tryd.prog 16 #[.pointer (some ⟨p, 0, none⟩), .agg op.vals] wr fun e w' => e = .returned (.bool ((layF zs op).2 == 0)) ∧
      ((layF zs op).2 ≠ 0 → Hid (Stt w w' p vs os (k + 1) zs.length)) ∧ ∃ v', Wr w' p v' (layF zs op).1 (layF zs op).2 p ∧ Steps w' w.heap.size vs (firstB :: ss) ∧ Below w.heap.size w w' ∧ (∀ g, vs.ownBlock = some g → g ≠ p ∧ v'.ownBlock ≠ some g) ∧ (layF zs op).1.length ≤ 4 + total (os.take (k + 1)) := by
  have hc := cost_le hk
  rw [← hop] at hc
  unfold cost at hc
  have ht2 := total_take_le os k
  refine (laid_any hw ⟨ho, hn, by omega, by omega⟩ (by omega) (Nat.le_of_lt hw.lt) (ht.below hB)).mono ?_
  rintro e w' ⟨rfl, v', h1, h2, h3⟩
  have hgv : ∀ g, vs.ownBlock = some g → g < wr.heap.size := fun g hg => by
    obtain ⟨g', cap, rfl, hlt, _⟩ := hs.form (by simp)
    cases hg; exact hlt
  have hst : Steps w' w.heap.size vs (firstB :: ss) := hs.keeps h2 (fun g hg hf => by
    rcases hf with hf | hf
    · exact (hsep g hg).1 hf
    · exact (hsep g hg).2 hf)
  have hb' : Below w.heap.size w w' := hB.trans (h2.below hB.size (fun i _ hf => by
    rcases hf with hf | hf
    · omega
    · have := own_ge hw.2.1 hf; omega))
  have hsep' : ∀ g, vs.ownBlock = some g → g ≠ p ∧ v'.ownBlock ≠ some g := fun g hg => ⟨(hsep g hg).1, fun e => by
    rcases h3 with h3 | ⟨j, hj, hle⟩
    · rw [h3] at e; exact (hsep g hg).2 e
    · rw [hj] at e
      cases e
      have := hgv g hg
      omega⟩
  have hlen : (layF zs op).1.length ≤ 4 + total (os.take (k + 1)) := by
    obtain ⟨B, hB1, hB2⟩ := lay_grow zs op
    rw [hB1, List.length_append, total_take_succ hk, ← hop]
    unfold cost
    omega
  refine ⟨rfl, fun hne => ?_, v', h1, hst, hb', hsep', hlen⟩
  have e1 := lay_refused hne
  rw [e1] at h1
  exact ⟨v', zs, _, ss, h1, hst, hL, rfl, by rw [total_take_succ hk]; omega, by omega, hS, hb', hsep', hwp⟩

/-- a step is appended to the row -/
theorem stt_taken {w w3 w4 : World} {p : Nat} {vs vs' : Value} {os : List OpV} {k : Nat} {v : Value} {zs : List Nat} {ss : List OpV} {op : OpV} {Y : Obj} (h1 : Wr w3 p v zs 0 p) (hsep : ∀ g, vs.ownBlock = some g → g ≠ p ∧ v.ownBlock ≠ some g) (hB : Below w.heap.size w w3) (hwp : w.heap.size ≤ p)
    (hs : Steps w4 w.heap.size vs' ((firstB :: ss) ++ [op])) (hg : (w3.alloc Y).grownBy w4 vs.ownBlock) (ha : vs'.ownBlock = vs.ownBlock ∨ vs'.ownBlock = some (w3.alloc Y).heap.size) (hst : Steps w3 w.heap.size vs (firstB :: ss))
    (hL : LaidL [] ((firstB :: ss) ++ [op]) zs) (hz : zs.length ≤ 4 + total (os.take (k + 1))) (hl : ss.length ≤ k) (hS : ∀ o ∈ ss, Sl w o.pv o.ps ∧ o.n < 18446744073709551616) (ho : Sl w op.pv op.ps ∧ op.n < 18446744073709551616) :
    Stt w w4 p vs' os (k + 1) zs.length ∧ Wr w4 p v zs 0 p := by
  have hk := Keeps.of_grown hg
  have hw4 : Wr w4 p v zs 0 p := (h1.alloc Y).keeps hk (fun e => (hsep p e).1 rfl) (fun j hj e => (hsep j e).2 hj)
  have hbs : ∀ g, vs.ownBlock = some g → w.heap.size ≤ g := fun g hg => by
    obtain ⟨g', cap, rfl, _, hle, _⟩ := hst.form (by simp)
    cases hg; exact hle
  refine ⟨⟨v, zs, 0, ss ++ [op], hw4, hs, hL, rfl, hz, by simp; omega, fun o hm => ?_, ?_, fun g hgg => ?_, hwp⟩, hw4⟩
  · rcases List.mem_append.1 hm with hm | hm
    · exact hS o hm
    · obtain rfl := List.mem_singleton.1 hm
      exact ho
  · exact (hB.alloc hB.size Y).grown hg (by have := hB.size; simp; omega) (fun g hgg => hbs g hgg)
  · rcases ha with ha | ha
    · rw [ha] at hgg
      exact hsep g hgg
    · rw [ha] at hgg
      cases hgg
      have hp := h1.lt
      refine ⟨by simp; omega, fun e => ?_⟩
      have : (w3.alloc Y).heap.size < w3.heap.size := by
        rcases h1.2.1.2 with ⟨hv, _⟩ | ⟨g', cap, cur, hv, _, hgg, _⟩
        · rw [hv] at e; cases e
        · rw [hv] at e
          cases e
          exact (Array.getElem?_eq_some_iff.1 hgg).1
      simp at this
      omega
/-- where the second loop stands: the reader behind the first i steps -/
def In2 (w wr : World) (q G : Nat) (vs : Value) (S : List OpV) (zs : List Nat) (i : Nat) : Prop :=
  ∃ A, LaidL A (S.drop i) zs ∧ Rd wr q G zs A.length 0 ∧ Steps wr w.heap.size vs S ∧ Below w.heap.size w wr ∧ (∀ g, vs.ownBlock = some g → g ≠ q) ∧ w.heap.size ≤ q ∧ w.heap.size ≤ G
/-- a step's six cells -/
def Six2 (w : World) (g i : Nat) (o : OpV) (a : Option Addr) (n c : Nat) : Prop :=
  w.cell? ⟨g, i * 6, none⟩ = some (.int .i64 o.kind) ∧ w.cell? ⟨g, i * 6 + 1, none⟩ = some (.int .i64 o.pos) ∧ w.cell? ⟨g, i * 6 + 2, none⟩ = some (.int .u64 (o.n : Int)) ∧ w.cell? ⟨g, i * 6 + 3, none⟩ = some (.int .i64 o.num) ∧ w.cell? ⟨g, i * 6 + 4, none⟩ = some (.slice a n c) ∧ w.cell? ⟨g, i * 6 + 5, none⟩ = some (.string o.s)
theorem Steps.six {w : World} {base g cap m : Nat} {S : List OpV} (h : Steps w base (.slice (some ⟨g, 0, none⟩) m cap) S) {i : Nat} (hi : i < S.length) {a : Option Addr} {n c : Nat} (hp : S[i].pv = .slice a n c) : Six2 w g i S[i] a n c := by
  obtain ⟨g', cap', e, d0, d1, d2, d3, d4, d5⟩ := h.at i hi
  cases e
  rw [hp] at d4
  exact ⟨d0, d1, d2, d3, d4, d5⟩
/-- what was laid is taken again -/
theorem in2_again {w wr : World} {q G g m cap : Nat} {S : List OpV} {zs : List Nat} {i : Nat} (h : In2 w wr q G (.slice (some ⟨g, 0, none⟩) m cap) S zs i) (hi : i < S.length) (ht : Tab w) (ho : Sl w S[i].pv S[i].ps ∧ S[i].n < 18446744073709551616) {a : Option Addr} {n c : Nat} (hp : S[i].pv = .slice a n c) :
    Calls Tryd.prog 21 #[.pointer (some ⟨q, 0, none⟩), .agg S[i].vals] wr fun e w' => ∃ a' n' c' m' s' qs, e = .returned (.agg #[.int .i64 S[i].kind, .int .i64 0, .int .u64 ((m' : Nat) : Int), .int .i64 S[i].num, .slice a' n' c', .string s']) ∧ Six2 w' g i S[i] a n c ∧
      Hid (In2 w w' q G (.slice (some ⟨g, 0, none⟩) m cap) S zs (i + 1)) ∧ Hid (Sl w' (.slice a' n' c') qs ∧ AlikeH S[i] ⟨S[i].kind, 0, m', S[i].num, .slice a' n' c', qs, s'⟩) := by
  obtain ⟨A, hL, hR, hS, hB, hsep, hq, hG⟩ := h
  have hd := List.drop_eq_getElem_cons hi
  rw [hd] at hL
  obtain ⟨R, hR2⟩ := hL.2.grows
  obtain ⟨B, hB1, _⟩ := lay_grow A S[i]
  have hA : ∀ z ∈ A, z < 256 := fun z hz => hR.2.2.2.2.1 z (by rw [hR2, hB1]; simp [hz])
  have hb := back_step (R := R) hA hL.1 ho.2
  rw [← hR2] at hb
  obtain ⟨b1, b2, b3⟩ := hb
  refine (again_any hR (ho.1.below hB) (ht.below hB)).mono ?_
  rintro e w' ⟨v', rfl, hsl, _, hag⟩
  obtain ⟨a', n', c', hv⟩ : ∃ a n c, v' = .slice a n c := by
    obtain ⟨a, c, e, _⟩ := hsl
    exact ⟨a, _, c, e⟩
  subst hv
  obtain ⟨g1, g2, g3, g4⟩ := hag
  rw [b1, b2] at g1
  have hst := hS.keeps g2 (fun j hj e => hsep j hj e)
  exact ⟨a', n', c', _, _, _, rfl, hst.six hi hp, ⟨_, hL.2, g1, hst, hB.trans (g2.below hB.size (fun j _ e => by omega)), hsep, hq, hG⟩, hsl, b3 0 _⟩
theorem In2.keeps {w wr w' : World} {q G : Nat} {vs : Value} {S : List OpV} {zs : List Nat} {i : Nat} (h : In2 w wr q G vs S zs i) (hk : Keeps (fun _ => False) wr w') : In2 w w' q G vs S zs i := by
  obtain ⟨A, hL, hR, hS, hB, hsep, hq, hG⟩ := h
  exact ⟨A, hL, hR.keeps hk (fun h => h) (fun h => h), hS.keeps hk (fun _ _ h => h), hB.trans (hk.below hB.size (fun _ _ h => h.elim)), hsep, hq, hG⟩
theorem in2_alike {w wr : World} {q G g m cap : Nat} {S : List OpV} {zs : List Nat} {i k : Nat} (h : In2 w wr q G (.slice (some ⟨g, 0, none⟩) m cap) S zs k) (hi : i < S.length) (ho : Sl w S[i].pv S[i].ps) {a : Option Addr} {n c : Nat} (hp : S[i].pv = .slice a n c) {b : OpV} (hb : Sl wr b.pv b.ps) (hA : AlikeH S[i] b) :
    Calls Tryd.prog 26 #[.agg S[i].vals, .agg b.vals] wr fun e w' => e = .returned (.bool true) ∧ Six2 w' g i S[i] a n c ∧ Hid (In2 w w' q G (.slice (some ⟨g, 0, none⟩) m cap) S zs k) := by
  have hB : Below w.heap.size w wr := by obtain ⟨_, _, _, _, hB, _⟩ := h; exact hB
  refine (alike_any (ho.below hB) hb hA).mono ?_
  rintro e w' ⟨rfl, hk⟩
  have h' := h.keeps hk
  have hst : Steps w' w.heap.size (.slice (some ⟨g, 0, none⟩) m cap) S := by obtain ⟨_, _, _, hS, _⟩ := h'; exact hS
  exact ⟨rfl, hst.six hi hp, h'⟩
theorem in2_err {w wr : World} {q G : Nat} {vs : Value} {S : List OpV} {zs : List Nat} {i : Nat} (h : In2 w wr q G vs S zs i) : Calls Tryd.prog 22 #[.pointer (some ⟨q, 0, none⟩)] wr fun e w' => e = .returned (.int .i64 0) ∧ w' = wr := by
  obtain ⟨_, _, hR, _⟩ := h
  exact rerr_any hR
theorem in2_end {w wr : World} {q G : Nat} {vs : Value} {S : List OpV} {zs : List Nat} (h : In2 w wr q G vs S zs S.length) : Rd wr q G zs zs.length 0 ∧ Below w.heap.size w wr := by
  obtain ⟨A, hL, hR, _, hB, _⟩ := h
  rw [List.drop_length] at hL
  cases hL
  exact ⟨hR, hB⟩
theorem stt_start {w wA w2 : World} {v2 : Value} {os : List OpV} (hw : Wr w2 wA.heap.size v2 [2, 0, 97, 98] 0 wA.heap.size) (hB : Below w.heap.size w w2) (hA : w.heap.size ≤ wA.heap.size) :
    Stt w (w2.alloc (Obj.cells #[.int .i64 6, .int .i64 0, .int .u64 0, .int .i64 0, .slice none 0 0, .string ⟨#[97, 98]⟩] 36)) wA.heap.size (.slice (some ⟨w2.heap.size, 0, none⟩) 1 1) os 0 4 := by
  refine ⟨v2, _, 0, [], hw.alloc _, ⟨rfl, .inr ⟨w2.heap.size, 1, _, rfl, hB.size, heap_alloc_new w2 _, Nat.le_refl _, by simp [maxLen], rfl, rfl⟩⟩, ⟨by rw [first_lay], by rw [first_lay]; rfl⟩, rfl, by simp, Nat.le_refl _, fun _ h => (by cases h), hB.alloc hB.size _, fun g hg => ?_, hA⟩
  have hg' : w2.heap.size = g := Option.some.inj hg
  have hp := hw.lt
  refine ⟨by omega, fun e => ?_⟩
  rcases hw.2.1.2 with ⟨hv, _⟩ | ⟨g', cap, cur, hv, _, hgg, _⟩
  · rw [hv] at e; cases e
  · rw [hv] at e
    have e' : g' = g := Option.some.inj e
    have := (Array.getElem?_eq_some_iff.1 hgg).1
    omega
end Go.Proofs.YtlcjdofciogfaaaDoor
