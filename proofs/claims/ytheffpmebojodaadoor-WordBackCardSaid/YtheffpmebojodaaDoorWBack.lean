/- WordBack: what is laid is taken back. Own work. -/
import Derived.Test.YtheffpmebojodaaDoorOpRow
import Derived.Deep.RegionHeld3
namespace Go.Proofs.YtheffpmebojodaaDoor
open Go.RowKit
/-- the step that goes first -/
def firstB : OpV := ⟨6, 0, 0, 0, .slice none 0 0, [], ⟨#[97, 98]⟩⟩
theorem first_lay : layF [] firstB = ([2, 0, 97, 98], 0) := by decide
/-- where the first loop stands: the writer, the steps that it took -/
def Stt (w wr : World) (p : Nat) (vs : Value) (os : List OpV) (k n : Nat) : Prop :=
  ∃ v zs why ss, Wr wr p v zs why p ∧ Steps wr w.heap.size vs (firstB :: ss) ∧ LaidL [] (firstB :: ss) zs ∧ n = zs.length ∧ zs.length ≤ 4 + total (os.take k) ∧ ss.length ≤ k ∧ (∀ o ∈ ss, Sl w o.pv o.ps ∧ o.n < 18446744073709551616) ∧ Below w.heap.size w wr ∧ (∀ g, vs.ownBlock = some g → g ≠ p ∧ v.ownBlock ≠ some g) ∧ w.heap.size ≤ p
theorem Stt.alloc {w wr : World} {p : Nat} {vs : Value} {os : List OpV} {k n : Nat} (h : Stt w wr p vs os k n) (X : Obj) : Stt w (wr.alloc X) p vs os k n := by
  obtain ⟨v, zs, why, ss, h1, h2, h3, h4, h5, h6, h7, h8, h9, h10⟩ := h
  exact ⟨v, zs, why, ss, h1.alloc X, h2.keeps (Keeps.alloc (S := fun _ => False) wr X) (fun _ _ h => h), h3, h4, h5, h6, h7, h8.alloc h8.size X, h9, h10⟩
theorem Stt.more {w wr : World} {p : Nat} {vs : Value} {os : List OpV} {k n : Nat} (h : Stt w wr p vs os k n) (hk : k < os.length) : Stt w wr p vs os (k + 1) n := by
  obtain ⟨v, zs, why, ss, h1, h2, h3, h4, h5, h6, h7, h8, h9, h10⟩ := h
  exact ⟨v, zs, why, ss, h1, h2, h3, h4, by rw [total_take_succ hk]; omega, by omega, h7, h8, h9, h10⟩
theorem total_take_le (os : List OpV) (k : Nat) : total (os.take k) ≤ total os := by
  induction os generalizing k with
  | nil => simp
  | cons o os ih =>
    cases k with
    | zero => simp [total]
    | succ k => simp only [List.take_succ_cons, total]; have := ih k; omega
theorem len_le_total (os : List OpV) : os.length ≤ total os := by
  induction os with
  | nil => exact Nat.le_refl _
  | cons o os ih => simp only [List.length_cons, total, cost]; omega
theorem cost_le {os : List OpV} {k : Nat} (hk : k < os.length) : cost os[k] ≤ total os := by
  have h1 := total_take_succ hk
  have h2 := total_take_le os (k + 1)
  omega
/-- the writer has refused: nothing comes of the step -/
theorem stt_not {w wr : World} {p : Nat} {vs : Value} {os : List OpV} {k n : Nat} {v : Value} {zs : List Nat} {why : Int} {op : OpV} (hw : Wr wr p v zs why p) (hy : why ≠ 0) (ho : Sl wr op.pv op.ps) (h : Stt w wr p vs os k n) (hk : k < os.length) :
    Calls Tryd.prog 9 #[.pointer (some ⟨p, 0, none⟩), .agg op.vals] wr fun e w' => e = .returned (.bool false) ∧ Hid (Stt w w' p vs os (k + 1) n) := by
  refine (laid_not hw hy ho).mono ?_
  rintro e w' ⟨rfl, X, rfl⟩
  exact ⟨rfl, (h.more hk).alloc X⟩
/-- the writer takes it, or refuses it -/
theorem stt_laid {w wr : World} {p : Nat} {vs : Value} {os : List OpV} {k : Nat} {v : Value} {zs : List Nat} {ss : List OpV} {op : OpV} (ht : Tab w) (hw : Wr wr p v zs 0 p) (hs : Steps wr w.heap.size vs (firstB :: ss)) (hL : LaidL [] (firstB :: ss) zs) (hz : zs.length ≤ 4 + total (os.take k)) (hl : ss.length ≤ k) (hS : ∀ o ∈ ss, Sl w o.pv o.ps ∧ o.n < 18446744073709551616)
    (hB : Below w.heap.size w wr) (hsep : ∀ g, vs.ownBlock = some g → g ≠ p ∧ v.ownBlock ≠ some g) (hwp : w.heap.size ≤ p) (htot : total os ≤ 2147483647) (hk : k < os.length) (hop : op = os[k]) (ho : Sl wr op.pv op.ps) (hn : op.n < 18446744073709551616) :
    Calls Tryd.prog 9 #[.pointer (some ⟨p, 0, none⟩), .agg op.vals] wr fun e w' => e = .returned (.bool ((layF zs op).2 == 0)) ∧
      ((layF zs op).2 ≠ 0 → Hid (Stt w w' p vs os (k + 1) zs.length)) ∧ ∃ v', Wr w' p v' (layF zs op).1 (layF zs op).2 p ∧ Steps w' w.heap.size vs (firstB :: ss) ∧ Below w.heap.size w w' ∧ (∀ g, vs.ownBlock = some g → g ≠ p ∧ v'.ownBlock ≠ some g) ∧ (layF zs op).1.length ≤ 4 + total (os.take (k + 1)) := by
  have hc := cost_le hk
  rw [← hop] at hc
  unfold cost at hc
  have ht2 := total_take_le os k
  refine (laid_any hw ⟨ho, hn, by omega, by omega⟩ (by omega) (Nat.le_of_lt hw.lt) (ht.below hB)).mono ?_
  rintro e w' ⟨rfl, v', h1, h2, h3⟩
  have hgv : ∀ g, vs.ownBlock = some g → g < wr.heap.size := fun g hg => by
    obtain ⟨g', cap, rfl, hlt, _⟩ := hs.form (by simp)
    cases hg; exact hlt
  have hst : Steps w' w.heap.size vs (firstB :: ss) := hs.keeps h2 (fun g hg hf => by
    rcases hf with hf | hf
    · exact (hsep g hg).1 hf
    · exact (hsep g hg).2 hf)
  have hb' : Below w.heap.size w w' := hB.trans (h2.below hB.size (fun i _ hf => by
    rcases hf with hf | hf
    · omega
    · have := own_ge hw.2.1 hf; omega))
  have hsep' : ∀ g, vs.ownBlock = some g → g ≠ p ∧ v'.ownBlock ≠ some g := fun g hg => ⟨(hsep g hg).1, fun e => by
    rcases h3 with h3 | ⟨j, hj, hle⟩
    · rw [h3] at e; exact (hsep g hg).2 e
    · rw [hj] at e
      cases e
      have := hgv g hg
      omega⟩
  have hlen : (layF zs op).1.length ≤ 4 + total (os.take (k + 1)) := by
    obtain ⟨B, hB1, hB2⟩ := lay_grow zs op
    rw [hB1, List.length_append, total_take_succ hk, ← hop]
    unfold cost
    omega
  refine ⟨rfl, fun hne => ?_, v', h1, hst, hb', hsep', hlen⟩
  have e1 := lay_refused hne
  rw [e1] at h1
  exact ⟨v', zs, _, ss, h1, hst, hL, rfl, by rw [total_take_succ hk]; omega, by omega, hS, hb', hsep', hwp⟩

/-- a step is appended to the row -/
theorem stt_taken {w w3 w4 : World} {p : Nat} {vs vs' : Value} {os : List OpV} {k : Nat} {v : Value} {zs : List Nat} {ss : List OpV} {op : OpV} {Y : Obj} (h1 : Wr w3 p v zs 0 p) (hsep : ∀ g, vs.ownBlock = some g → g ≠ p ∧ v.ownBlock ≠ some g) (hB : Below w.heap.size w w3) (hwp : w.heap.size ≤ p)
    (hs : Steps w4 w.heap.size vs' ((firstB :: ss) ++ [op])) (hg : (w3.alloc Y).grownBy w4 vs.ownBlock) (ha : vs'.ownBlock = vs.ownBlock ∨ vs'.ownBlock = some (w3.alloc Y).heap.size) (hst : Steps w3 w.heap.size vs (firstB :: ss))
    (hL : LaidL [] ((firstB :: ss) ++ [op]) zs) (hz : zs.length ≤ 4 + total (os.take (k + 1))) (hl : ss.length ≤ k) (hS : ∀ o ∈ ss, Sl w o.pv o.ps ∧ o.n < 18446744073709551616) (ho : Sl w op.pv op.ps ∧ op.n < 18446744073709551616) :
    Stt w w4 p vs' os (k + 1) zs.length ∧ Wr w4 p v zs 0 p := by
  have hk := Keeps.of_grown hg
  have hw4 : Wr w4 p v zs 0 p := (h1.alloc Y).keeps hk (fun e => (hsep p e).1 rfl) (fun j hj e => (hsep j e).2 hj)
  have hbs : ∀ g, vs.ownBlock = some g → w.heap.size ≤ g := fun g hg => by
    obtain ⟨g', cap, rfl, _, hle, _⟩ := hst.form (by simp)
    cases hg; exact hle
  refine ⟨⟨v, zs, 0, ss ++ [op], hw4, hs, hL, rfl, hz, by simp; omega, fun o hm => ?_, ?_, fun g hgg => ?_, hwp⟩, hw4⟩
  · rcases List.mem_append.1 hm with hm | hm
    · exact hS o hm
    · obtain rfl := List.mem_singleton.1 hm
      exact ho
  · exact (hB.alloc hB.size Y).grown hg (by have := hB.size; simp; omega) (fun g hgg => hbs g hgg)
  · rcases ha with ha | ha
    · rw [ha] at hgg
      exact hsep g hgg
    · rw [ha] at hgg
      cases hgg
      have hp := h1.lt
      refine ⟨by simp; omega, fun e => ?_⟩
      have : (w3.alloc Y).heap.size < w3.heap.size := by
        rcases h1.2.1.2 with ⟨hv, _⟩ | ⟨g', cap, cur, hv, _, hgg, _⟩
        · rw [hv] at e; cases e
        · rw [hv] at e
          cases e
          exact (Array.getElem?_eq_some_iff.1 hgg).1
      simp at this
      omega
/-- where the second loop stands: the reader behind the first i steps -/
def In2 (w wr : World) (q G : Nat) (vs : Value) (S : List OpV) (zs : List Nat) (i : Nat) : Prop :=
  ∃ A, LaidL A (S.drop i) zs ∧ Rd wr q G zs A.length 0 ∧ Steps wr w.heap.size vs S ∧ Below w.heap.size w wr ∧ (∀ g, vs.ownBlock = some g → g ≠ q) ∧ w.heap.size ≤ q ∧ w.heap.size ≤ G
/-- a step's six cells -/
def Six2 (w : World) (g i : Nat) (o : OpV) (a : Option Addr) (n c : Nat) : Prop :=
  w.cell? ⟨g, i * 6, none⟩ = some (.int .i64 o.kind) ∧ w.cell? ⟨g, i * 6 + 1, none⟩ = some (.int .i64 o.pos) ∧ w.cell? ⟨g, i * 6 + 2, none⟩ = some (.int .u64 (o.n : Int)) ∧ w.cell? ⟨g, i * 6 + 3, none⟩ = some (.int .i64 o.num) ∧ w.cell? ⟨g, i * 6 + 4, none⟩ = some (.slice a n c) ∧ w.cell? ⟨g, i * 6 + 5, none⟩ = some (.string o.s)
theorem Steps.six {w : World} {base g cap m : Nat} {S : List OpV} (h : Steps w base (.slice (some ⟨g, 0, none⟩) m cap) S) {i : Nat} (hi : i < S.length) {a : Option Addr} {n c : Nat} (hp : S[i].pv = .slice a n c) : Six2 w g i S[i] a n c := by
  obtain ⟨g', cap', e, d0, d1, d2, d3, d4, d5⟩ := h.at i hi
  cases e
  rw [hp] at d4
  exact ⟨d0, d1, d2, d3, d4, d5⟩
/-- what was laid is taken again -/
theorem in2_again {w wr : World} {q G g m cap : Nat} {S : List OpV} {zs : List Nat} {i : Nat} (h : In2 w wr q G (.slice (some ⟨g, 0, none⟩) m cap) S zs i) (hi : i < S.length) (ht : Tab w) (ho : Sl w S[i].pv S[i].ps ∧ S[i].n < 18446744073709551616) {a : Option Addr} {n c : Nat} (hp : S[i].pv = .slice a n c) :
    Calls Tryd.prog 14 #[.pointer (some ⟨q, 0, none⟩), .agg S[i].vals] wr fun e w' => ∃ a' n' c' m' s' qs, e = .returned (.agg #[.int .i64 S[i].kind, .int .i64 0, .int .u64 ((m' : Nat) : Int), .int .i64 S[i].num, .slice a' n' c', .string s']) ∧ Six2 w' g i S[i] a n c ∧
      Hid (In2 w w' q G (.slice (some ⟨g, 0, none⟩) m cap) S zs (i + 1)) ∧ Hid (Sl w' (.slice a' n' c') qs ∧ AlikeH S[i] ⟨S[i].kind, 0, m', S[i].num, .slice a' n' c', qs, s'⟩) := by
  obtain ⟨A, hL, hR, hS, hB, hsep, hq, hG⟩ := h
  have hd := List.drop_eq_getElem_cons hi
  rw [hd] at hL
  obtain ⟨R, hR2⟩ := hL.2.grows
  obtain ⟨B, hB1, _⟩ := lay_grow A S[i]
  have hA : ∀ z ∈ A, z < 256 := fun z hz => hR.2.2.2.2.1 z (by rw [hR2, hB1]; simp [hz])
  have hb := back_step (R := R) hA hL.1 ho.2
  rw [← hR2] at hb
  obtain ⟨b1, b2, b3⟩ := hb
  refine (again_any hR (ho.1.below hB) (ht.below hB)).mono ?_
  rintro e w' ⟨v', rfl, hsl, _, hag⟩
  obtain ⟨a', n', c', hv⟩ : ∃ a n c, v' = .slice a n c := by
    obtain ⟨a, c, e, _⟩ := hsl
    exact ⟨a, _, c, e⟩
  subst hv
  obtain ⟨g1, g2, g3, g4⟩ := hag
  rw [b1, b2] at g1
  have hst := hS.keeps g2 (fun j hj e => hsep j hj e)
  exact ⟨a', n', c', _, _, _, rfl, hst.six hi hp, ⟨_, hL.2, g1, hst, hB.trans (g2.below hB.size (fun j _ e => by omega)), hsep, hq, hG⟩, hsl, b3 0 _⟩
theorem In2.keeps {w wr w' : World} {q G : Nat} {vs : Value} {S : List OpV} {zs : List Nat} {i : Nat} (h : In2 w wr q G vs S zs i) (hk : Keeps (fun _ => False) wr w') : In2 w w' q G vs S zs i := by
  obtain ⟨A, hL, hR, hS, hB, hsep, hq, hG⟩ := h
  exact ⟨A, hL, hR.keeps hk (fun h => h) (fun h => h), hS.keeps hk (fun _ _ h => h), hB.trans (hk.below hB.size (fun _ _ h => h.elim)), hsep, hq, hG⟩
theorem in2_alike {w wr : World} {q G g m cap : Nat} {S : List OpV} {zs : List Nat} {i k : Nat} (h : In2 w wr q G (.slice (some ⟨g, 0, none⟩) m cap) S zs k) (hi : i < S.length) (ho : Sl w S[i].pv S[i].ps) {a : Option Addr} {n c : Nat} (hp : S[i].pv = .slice a n c) {b : OpV} (hb : Sl wr b.pv b.ps) (hA : AlikeH S[i] b) :
    Calls Tryd.prog 13 #[.agg S[i].vals, .agg b.vals] wr fun e w' => e = .returned (.bool true) ∧ Six2 w' g i S[i] a n c ∧ Hid (In2 w w' q G (.slice (some ⟨g, 0, none⟩) m cap) S zs k) := by
  have hB : Below w.heap.size w wr := by obtain ⟨_, _, _, _, hB, _⟩ := h; exact hB
  refine (alike_any (ho.below hB) hb hA).mono ?_
  rintro e w' ⟨rfl, hk⟩
  have h' := h.keeps hk
  have hst : Steps w' w.heap.size (.slice (some ⟨g, 0, none⟩) m cap) S := by obtain ⟨_, _, _, hS, _⟩ := h'; exact hS
  exact ⟨rfl, hst.six hi hp, h'⟩
theorem in2_err {w wr : World} {q G : Nat} {vs : Value} {S : List OpV} {zs : List Nat} {i : Nat} (h : In2 w wr q G vs S zs i) : Calls Tryd.prog 15 #[.pointer (some ⟨q, 0, none⟩)] wr fun e w' => e = .returned (.int .i64 0) ∧ w' = wr := by
  obtain ⟨_, _, hR, _⟩ := h
  exact rerr_any hR
theorem in2_end {w wr : World} {q G : Nat} {vs : Value} {S : List OpV} {zs : List Nat} (h : In2 w wr q G vs S zs S.length) : Rd wr q G zs zs.length 0 ∧ Below w.heap.size w wr := by
  obtain ⟨A, hL, hR, _, hB, _⟩ := h
  rw [List.drop_length] at hL
  cases hL
  exact ⟨hR, hB⟩
theorem stt_start {w wA w2 : World} {v2 : Value} {os : List OpV} (hw : Wr w2 wA.heap.size v2 [2, 0, 97, 98] 0 wA.heap.size) (hB : Below w.heap.size w w2) (hA : w.heap.size ≤ wA.heap.size) :
    Stt w (w2.alloc (Obj.cells #[.int .i64 6, .int .i64 0, .int .u64 0, .int .i64 0, .slice none 0 0, .string ⟨#[97, 98]⟩] 30)) wA.heap.size (.slice (some ⟨w2.heap.size, 0, none⟩) 1 1) os 0 4 := by
  refine ⟨v2, _, 0, [], hw.alloc _, ⟨rfl, .inr ⟨w2.heap.size, 1, _, rfl, hB.size, heap_alloc_new w2 _, Nat.le_refl _, by simp [maxLen], rfl, rfl⟩⟩, ⟨by rw [first_lay], by rw [first_lay]; rfl⟩, rfl, by simp, Nat.le_refl _, fun _ h => (by cases h), hB.alloc hB.size _, fun g hg => ?_, hA⟩
  have hg' : w2.heap.size = g := Option.some.inj hg
  have hp := hw.lt
  refine ⟨by omega, fun e => ?_⟩
  rcases hw.2.1.2 with ⟨hv, _⟩ | ⟨g', cap, cur, hv, _, hgg, _⟩
  · rw [hv] at e; cases e
  · rw [hv] at e
    have e' : g' = g := Option.some.inj e
    have := (Array.getElem?_eq_some_iff.1 hgg).1
    omega
set_option maxRecDepth 100000 in
set_option maxHeartbeats 4000000 in
theorem wback_any {w : World} {v : Value} {os : List OpV} (hv : Scr w v os) (ht : Tab w) :
    Calls Tryd.prog 3 #[v] w fun e w' => e = .returned (.bool true) ∧ Below w.heap.size w w' := by
  have HV : Hid (Scr w v os) := hv
  have HBy : Hid (Calls Tryd.prog 7 #[v] w fun e w' => ∃ r : Bool, e = .returned (.bool r) ∧ (r = false → total os ≤ 2147483647) ∧ Below w.heap.size w w') := beyond_any hv
  obtain ⟨ao, cap, rfl, hcap, hmax, hcells⟩ := hv
  clear hcells
  unfold maxLen at hmax
  have HT : Hid (Tab w) := ht
  clear ht
  go_enter Tryd.func3, Tryd.ntmps3
  go_wp2_with fail
  refine HBy.out.mono ?_
  rintro e wA ⟨r, rfl, htot, hbA⟩
  cases r with
  | true =>
    go_wp2_with fail
    go_ret
    exact ⟨rfl, hbA⟩
  | false =>
    have HTot : Hid (total os ≤ 2147483647) := htot rfl
    have hol : os.length ≤ 2147483647 := Nat.le_trans (len_le_total os) HTot.out
    clear htot
    have HBA : Hid (Below w.heap.size w wA) := hbA
    clear hbA HBy
    go_wp2_with fail
    refine (newWriter_any wA).mono ?_
    rintro e w1 ⟨rfl, hw1, hb1⟩
    have HC : Hid (Calls Tryd.prog 9 #[.pointer (some ⟨wA.heap.size, 0, none⟩), .agg firstB.vals] w1 (LaidPost w1 wA.heap.size wA.heap.size (.slice none 0 0) [] firstB)) := laid_any hw1 ⟨nil_sl _, by decide, by decide, by decide⟩ (by decide) (Nat.le_of_lt hw1.lt) (HT.out.below (HBA.out.trans (hb1.mono HBA.out.size)))
    have HB1 : Hid (Below w.heap.size w w1) := HBA.out.trans (hb1.mono HBA.out.size)
    clear hw1 hb1
    go_wp2_with fail
    refine HC.out.mono ?_
    rintro e w2 ⟨rfl, v2, hw2, hk2, _⟩
    rw [first_lay] at hw2 ⊢
    have HW2 : Hid (Wr w2 wA.heap.size v2 [2, 0, 97, 98] 0 wA.heap.size) := hw2
    have HB2 : Hid (Below w.heap.size w w2) := HB1.out.trans (hk2.below HB1.out.size (fun i _ hf => by
      rcases hf with hf | hf
      · rw [hf]; exact HBA.out.size
      · cases hf))
    clear hw2 hk2 HC
    go_wp2_with fail
    refine (len_any HW2.out).mono ?_
    rintro e w' ⟨rfl, hw⟩
    rw [hw]
    clear hw w'
    go_wp2_with fail
    go_loopw [4, 5, 6] (fun s n i wr => ∃ k N : Nat, k ≤ os.length ∧ i = .int .i64 (k : Int) ∧ n = .int .i64 (N : Int) ∧ Hid (Stt w wr wA.heap.size s os k N)) (fun _ _ i _ => os.length - (intOf i).toNat)
    case atStart => exact ⟨0, 4, Nat.zero_le _, rfl, rfl, stt_start HW2.out HB2.out HBA.out.size⟩
    case round =>
      obtain ⟨k, N, hk, rfl, rfl, HS⟩ := hrel
      by_cases hlt : k < os.length
      · have HS' := HS.out
        obtain ⟨v, zs, why, ss, hw, hs, hL, hn, hz, hl, hS, hB, hsep, hwp⟩ := HS'
        obtain ⟨b, of, op, hao, hop, hsl, hnn, c0, c1, c2, c3, c4, c5⟩ := HV.out.at hB k hlt
        subst hao
        by_cases hy : why = 0
        · subst hy
          have hC := stt_laid HT.out hw hs hL hz hl hS hB hsep hwp HTot.out hlt hop hsl hnn
          obtain ⟨Z, y, hZ⟩ : ∃ Z y, layF zs op = (Z, y) := ⟨_, _, rfl⟩
          have hsnoc := LaidL.snoc (o := op) hL
          rw [hZ] at hC hsnoc
          have HSn : Hid (y = 0 → LaidL [] ((firstB :: ss) ++ [op]) Z) := hsnoc
          have HC : Hid (Calls Tryd.prog 9 #[.pointer (some ⟨wA.heap.size, 0, none⟩), .agg op.vals] wr fun e w' => e = .returned (.bool (y == 0)) ∧
            (y ≠ 0 → Hid (Stt w w' wA.heap.size u4 os (k + 1) zs.length)) ∧ ∃ v', Wr w' wA.heap.size v' Z y wA.heap.size ∧ Steps w' w.heap.size u4 (firstB :: ss) ∧ Below w.heap.size w w' ∧ (∀ g, u4.ownBlock = some g → g ≠ wA.heap.size ∧ v'.ownBlock ≠ some g) ∧ Z.length ≤ 4 + total (os.take (k + 1))) := hC
          have HSS : Hid (∀ o ∈ ss, Sl w o.pv o.ps ∧ o.n < 18446744073709551616) := hS
          have HOp : Hid (Sl w op.pv op.ps ∧ op.n < 18446744073709551616) := by
            obtain ⟨b', o', op', _, hop', hsl', hn', _⟩ := HV.out.at (Below.refl _ _) k hlt
            rw [hop, ← hop']
            exact ⟨hsl', hn'⟩
          have HOp1 : Hid (op.pv.oneCell' = true) := by
            obtain ⟨a, c, e, _⟩ := hsl
            show op.pv.oneCell' = true
            rw [e]; rfl
          have HAt : Hid (∀ W, Below w.heap.size w W → W.cell? ⟨b, of + k * 6, none⟩ = some (.int .i64 op.kind) ∧ W.cell? ⟨b, of + k * 6 + 1, none⟩ = some (.int .i64 op.pos) ∧ W.cell? ⟨b, of + k * 6 + 2, none⟩ = some (.int .u64 (op.n : Int)) ∧ W.cell? ⟨b, of + k * 6 + 3, none⟩ = some (.int .i64 op.num) ∧ W.cell? ⟨b, of + k * 6 + 4, none⟩ = some op.pv ∧ W.cell? ⟨b, of + k * 6 + 5, none⟩ = some (.string op.s)) := fun W hW => by
            obtain ⟨b', o', op', e', hop', _, _, d0, d1, d2, d3, d4, d5⟩ := HV.out.at hW k hlt
            cases e'
            rw [hop, ← hop']
            exact ⟨d0, d1, d2, d3, d4, d5⟩
          have hN : N = zs.length := hn
          clear hw hs hL hn hz hS hB hsep hop hsl HS hC hsnoc hZ
          unfold OpV.vals at HC
          obtain ⟨pa, pl, pc, hpv⟩ : ∃ a n c, op.pv = .slice a n c := by
            obtain ⟨a, c, e, _⟩ := HOp.out.1
            exact ⟨a, _, c, e⟩
          rw [hpv] at HC c4
          have HPv : Hid (op.pv = .slice pa pl pc) := hpv
          clear hpv
          go_wp2_with fail
          refine HC.out.mono ?_
          rintro e w3 ⟨rfl, hno, v3, h1, h2, h3, h4, h5⟩
          clear HC c0 c1 c2 c3 c4 c5
          by_cases hy : y = 0
          · subst hy
            have HL2 : Hid (LaidL [] ((firstB :: ss) ++ [op]) Z) := HSn.out rfl
            clear HSn
            obtain ⟨c0, c1, c2, c3, c4, c5⟩ := HAt.out w3 h3
            have H1 : Hid (Wr w3 wA.heap.size v3 Z 0 wA.heap.size) := h1
            have H2 : Hid (Steps w3 w.heap.size u4 (firstB :: ss)) := h2
            have H3 : Hid (Below w.heap.size w w3) := h3
            have H4 : Hid (∀ g, u4.ownBlock = some g → g ≠ wA.heap.size ∧ v3.ownBlock ≠ some g) := h4
            clear h1 h2 h3 h4 hno
            rw [HPv.out] at c4
            have HNew : Hid (∀ i u, (opc op)[i]? = some u → (w3.alloc (.cells #[.int .i64 op.kind, .int .i64 op.pos, .int .u64 (op.n : Int), .int .i64 op.num, .slice pa pl pc, .string op.s] 30)).cell? ⟨w3.heap.size, i, none⟩ = some u) := fun i u hu => by
              rw [cell_of_row _ _ i _ _ _ (heap_alloc_new w3 _), ← hu, opc, HPv.out, ← Array.getElem?_toList]
            have H2a : Hid (Steps (w3.alloc (.cells #[.int .i64 op.kind, .int .i64 op.pos, .int .u64 (op.n : Int), .int .i64 op.num, .slice pa pl pc, .string op.s] 30)) w.heap.size u4 (firstB :: ss)) := H2.out.keeps (Keeps.alloc (S := fun _ => False) w3 _) (fun _ _ h => h)
            go_wp2_with (at_builtin; refine wpList_append_op (.tmp 39) (.tmp 44) (by rfl) rfl op rfl H2a.out rfl HNew.out HOp1.out (by simp; omega) (by have := H3.out.size; simp; omega) ?_; intro v4 w4 h2' g4 a4; have HS4 : Hid (Stt w w4 wA.heap.size v4 os (k + 1) Z.length ∧ Wr w4 wA.heap.size v3 Z 0 wA.heap.size) := stt_taken H1.out H4.out H3.out hwp h2' g4 a4 H2.out HL2.out h5 hl HSS.out HOp.out; clear h2' g4 a4)
            refine (len_any HS4.out.2).mono ?_
            rintro e w' ⟨rfl, hw⟩
            rw [hw]
            clear hw w'
            go_wp2_with fail
            go_roundw
            case rel => exact ⟨k + 1, Z.length, by omega, by go_num, rfl, HS4.out.1⟩
            case measure => simp [intOf]; omega
          · have hyb : (y == 0) = false := by simpa using hy
            rw [hyb]
            have HS2 := hno hy
            clear hno h1 h2 h3 h4
            go_wp2_with fail
            go_roundw
            case rel => exact ⟨k + 1, zs.length, by omega, by go_num, rfl, HS2.out⟩
            case measure => simp [intOf]; omega
        · have HC : Hid (Calls Tryd.prog 9 #[.pointer (some ⟨wA.heap.size, 0, none⟩), .agg op.vals] wr fun e w' => e = .returned (.bool false) ∧ Hid (Stt w w' wA.heap.size u4 os (k + 1) N)) := stt_not hw hy hsl HS.out hlt
          clear hw hs hL hn hz hl hS hB hsep hwp hop hsl HS
          unfold OpV.vals at HC
          go_wp2_with fail
          refine HC.out.mono ?_
          rintro e w' ⟨rfl, HS2⟩
          clear HC
          go_wp2_with fail
          go_roundw
          case rel => exact ⟨k + 1, N, by omega, by go_num, rfl, HS2.out⟩
          case measure => simp [intOf]; omega
      · have hke : k = os.length := by omega
        have HS' := HS.out
        obtain ⟨v, zs, why, ss, hw, hs, hL, hn, hz, hl, hS, hB, hsep, hwp⟩ := HS'
        have htk := total_take_le os k
        have hzl : zs.length ≤ 2147483651 := by have := HTot.out; omega
        have HC : Hid (Calls Tryd.prog 12 #[.pointer (some ⟨wA.heap.size, 0, none⟩)] wr fun e w' => e = .returned (.slice (some ⟨wr.heap.size, 0, none⟩) zs.length zs.length) ∧ Row w' wr.heap.size zs ∧ Below wr.heap.size wr w') := all_any hw (by omega)
        obtain ⟨gs, cs, hu4, hgs, hgb, hcs1, hcs2⟩ := hs.form (by simp)
        subst hu4
        have HW : Hid (Wr wr wA.heap.size v zs why wA.heap.size) := hw
        have HSt : Hid (Steps wr w.heap.size (.slice (some ⟨gs, 0, none⟩) (firstB :: ss).length cs) (firstB :: ss)) := hs
        have HLL : Hid (LaidL [] (firstB :: ss) zs) := hL
        have HSS : Hid (∀ o ∈ firstB :: ss, Sl w o.pv o.ps ∧ o.n < 18446744073709551616) := fun o ho => by
          rcases List.mem_cons.1 ho with rfl | ho
          · exact ⟨nil_sl _, by decide⟩
          · exact hS o ho
        have HB : Hid (Below w.heap.size w wr) := hB
        have hN : N = zs.length := hn
        have hsl : (firstB :: ss).length ≤ 9223372036854775807 := by unfold maxLen at hcs2; omega
        clear hw hs hL hS hB hsep HS hn
        obtain ⟨S, hSd⟩ : ∃ S, S = firstB :: ss := ⟨_, rfl⟩
        rw [← hSd] at HSt HLL HSS hsl hcs1 ⊢
        clear hSd
        go_wp2_with fail
        refine HC.out.mono ?_
        rintro e w5 ⟨rfl, hr5, hb5⟩
        have HR5 : Hid (Row w5 wr.heap.size zs) := hr5
        have HB5 : Hid (Below wr.heap.size wr w5) := hb5
        clear hr5 hb5 HC
        go_wp2_with fail
        refine (newReader_any (row_whole HR5.out HW.out.2.2.2 (by omega)) (by omega)).mono ?_
        rintro e w6 ⟨q, rfl, hq, hr6, hb6⟩
        have HB6 : Hid (Below wr.heap.size wr w6) := HB5.out.trans (hb6.mono HB5.out.size)
        have HBw : Hid (Below w.heap.size w w6) := HB.out.trans (HB6.out.mono HB.out.size)
        have HW6 : Hid (Wr w6 wA.heap.size v zs why wA.heap.size) := HW.out.keeps (Keeps.of_below (S := fun _ => False) HB6.out) (fun h => h) (fun _ _ h => h)
        have HI0 : Hid (In2 w w6 q w5.heap.size (.slice (some ⟨gs, 0, none⟩) S.length cs) S zs 0) := ⟨[], HLL.out, hr6, HSt.out.keeps (Keeps.of_below (S := fun _ => False) HB6.out) (fun _ _ h => h), HBw.out, fun g hg => by have e : gs = g := Option.some.inj hg; have := HB5.out.size; omega, by have := HB5.out.size; have := HB.out.size; omega, by have := HB5.out.size; have := HB.out.size; omega⟩
        clear hr6 hb6 HR5
        go_wp2_with fail
        refine (len_any HW6.out).mono ?_
        rintro e w' ⟨rfl, hw⟩
        rw [hw]
        clear hw w'
        go_wp2_with fail
        go_loopw [8] (fun x wr2 => ∃ i : Nat, i ≤ S.length ∧ x = .int .i64 (i : Int) ∧ Hid (In2 w wr2 q w5.heap.size (.slice (some ⟨gs, 0, none⟩) S.length cs) S zs i)) (fun x _ => S.length - (intOf x).toNat)
        case atStart => exact ⟨0, Nat.zero_le _, rfl, HI0.out⟩
        case round =>
          obtain ⟨i, hi, rfl, HI⟩ := hrel
          by_cases hil : i < S.length
          · have hS := HSS.out S[i] (List.getElem_mem _)
            obtain ⟨pa, pl, pc, hpv⟩ : ∃ a n c, S[i].pv = .slice a n c := by
              obtain ⟨a, c, e, _⟩ := hS.1
              exact ⟨a, _, c, e⟩
            have hId : In2 w wr.drew q w5.heap.size (.slice (some ⟨gs, 0, none⟩) S.length cs) S zs i := HI.out.keeps ⟨rfl, rfl, rfl, Nat.le_refl _, fun _ _ _ => rfl⟩
            have hAg := in2_again hId hil HT.out hS hpv
            have hAl := fun (W : World) (b : OpV) (h : In2 w W q w5.heap.size (.slice (some ⟨gs, 0, none⟩) S.length cs) S zs (i + 1)) (hb : Sl W b.pv b.ps) (hA : AlikeH S[i] b) => in2_alike h hil hS.1 hpv hb hA
            have hsix : Six2 wr gs i S[i] pa pl pc := by
              obtain ⟨_, _, _, hst, _⟩ := HI.out
              exact hst.six hil hpv
            obtain ⟨o, hod⟩ : ∃ o, o = S[i] := ⟨_, rfl⟩
            rw [← hod] at hAg hAl hsix hpv
            clear hod hS hId
            simp only [OpV.vals, hpv] at hAg hAl
            have HAg : Hid (Calls Tryd.prog 14 #[.pointer (some ⟨q, 0, none⟩), .agg #[.int .i64 o.kind, .int .i64 o.pos, .int .u64 (o.n : Int), .int .i64 o.num, .slice pa pl pc, .string o.s]] wr.drew fun e w' => ∃ a' n' c' m' s' qs, e = .returned (.agg #[.int .i64 o.kind, .int .i64 0, .int .u64 ((m' : Nat) : Int), .int .i64 o.num, .slice a' n' c', .string s']) ∧ Six2 w' gs i o pa pl pc ∧
              Hid (In2 w w' q w5.heap.size (.slice (some ⟨gs, 0, none⟩) S.length cs) S zs (i + 1)) ∧ Hid (Sl w' (.slice a' n' c') qs ∧ AlikeH o ⟨o.kind, 0, m', o.num, .slice a' n' c', qs, s'⟩)) := hAg
            have HAl : Hid (∀ (W : World) (b : OpV), In2 w W q w5.heap.size (.slice (some ⟨gs, 0, none⟩) S.length cs) S zs (i + 1) → Sl W b.pv b.ps → AlikeH o b → Calls Tryd.prog 13 #[.agg #[.int .i64 o.kind, .int .i64 o.pos, .int .u64 (o.n : Int), .int .i64 o.num, .slice pa pl pc, .string o.s], .agg #[.int .i64 b.kind, .int .i64 b.pos, .int .u64 (b.n : Int), .int .i64 b.num, b.pv, .string b.s]] W fun e w' => e = .returned (.bool true) ∧ Six2 w' gs i o pa pl pc ∧ Hid (In2 w w' q w5.heap.size (.slice (some ⟨gs, 0, none⟩) S.length cs) S zs (i + 1))) := hAl
            obtain ⟨c0, c1, c2, c3, c4, c5⟩ := hsix
            have j0 : (0 : Int) ≤ (i : Int) := by omega
            have j1 : (i : Int) < (S.length : Int) := by omega
            clear hAg hAl hpv HI
            go_wp2_with fail
            go_region_held3 (fun w' => w'.cell? ⟨gs, i * 6, none⟩ = some (.int .i64 o.kind) ∧ w'.cell? ⟨gs, i * 6 + 1, none⟩ = some (.int .i64 o.pos) ∧ w'.cell? ⟨gs, i * 6 + 2, none⟩ = some (.int .u64 (o.n : Int)) ∧ w'.cell? ⟨gs, i * 6 + 3, none⟩ = some (.int .i64 o.num) ∧ w'.cell? ⟨gs, i * 6 + 4, none⟩ = some (.slice pa pl pc) ∧ w'.cell? ⟨gs, i * 6 + 5, none⟩ = some (.string o.s)) (go_keep) (first | (go_at_call 14; refine HAg.out.mono ?_; rintro e w7 ⟨a7, n7, c7, m7, s7, qs7, rfl, h7, HI7, HX7⟩; obtain ⟨d0, d1, d2, d3, d4, d5⟩ := h7) | (go_at_call 13; refine (HAl.out w7 ⟨o.kind, 0, m7, o.num, .slice a7 n7 c7, qs7, s7⟩ HI7.out HX7.out.1 HX7.out.2).mono ?_; rintro e w8 ⟨rfl, h8, HI8⟩; obtain ⟨f0, f1, f2, f3, f4, f5⟩ := h8) | (go_at_call 15; refine (in2_err HI8.out).mono ?_; rintro e w9 ⟨rfl, hw9⟩; rw [hw9]; clear hw9 w9))
            go_wp2_with fail
            go_roundw
            case rel => exact ⟨i + 1, by omega, by go_num, HI8.out⟩
            case measure => simp [intOf]; omega
          · obtain rfl : i = S.length := by omega
            obtain ⟨hR, hB⟩ := in2_end HI.out
            have HE : Hid (Calls Tryd.prog 16 #[.pointer (some ⟨q, 0, none⟩)] wr fun e w' => e = .returned (.int .i64 0) ∧ Rd w' q w5.heap.size zs zs.length 0 ∧ Below w.heap.size w w') := (end_none hR rfl).mono fun e w' h => ⟨h.1, h.2.rd hR, hB.trans (h.2.2.mono hB.size)⟩
            clear hR hB HI
            go_wp2_with fail
            refine HE.out.mono ?_
            rintro e w7 ⟨rfl, hr7, hb7⟩
            have HR7 : Hid (Rd w7 q w5.heap.size zs zs.length 0) := hr7
            have HB7 : Hid (Below w.heap.size w w7) := hb7
            clear hr7 hb7 HE
            go_wp2_with fail
            have HPut : Hid (Calls Tryd.prog 17 #[.pointer (some ⟨q, 0, none⟩)] w7 fun e w' => e = .returned (.int .i64 0) ∧ Stay w7 w') := (rleft_any HR7.out).mono fun e w' h => ⟨by rw [h.1]; simp, h.2⟩
            refine HPut.out.mono ?_
            rintro e w8 ⟨rfl, hs⟩
            have HR8 : Hid (Rd w8 q w5.heap.size zs zs.length 0) := hs.rd HR7.out
            have HB8 : Hid (Below w.heap.size w w8) := HB7.out.trans (hs.2.mono HB7.out.size)
            clear hs HR7 HB7 HPut
            go_wp2_with fail
            refine (rat_any HR8.out).mono ?_
            rintro e w' ⟨rfl, hw⟩
            rw [hw]
            clear hw w'
            go_wp2_with fail
            go_ret
            exact ⟨rfl, HB8.out⟩
end Go.Proofs.YtheffpmebojodaaDoor
