import Derived.Test.YtfnikcjcgneboaaGreatPk04
import Derived.Test.YtfnikcjcgneboaaGreatProg
import Derived.WalkKit
import Derived.WalkSpells
import Derived.Test.YtfnikcjcgneboaaGreatPk40
import Derived.Test.YtfnikcjcgneboaaGreatPk12
/- A list of numbers that was handed in; its pairs. Own work. -/
namespace Go.Proofs.YtfnikcjcgneboaaGreat.Sp
open Go.RowKit

/-- A slice of numbers of 64 bits. -/
def UL (w : World) (v : Value) (zs : List Int) : Prop :=
  (∀ z ∈ zs, 0 ≤ z ∧ z ≤ 18446744073709551615) ∧ ∃ ao cap, v = .slice ao zs.length cap ∧ zs.length ≤ cap ∧ cap ≤ maxLen ∧ (ao = none → zs = [] ∧ cap = 0) ∧
    ∀ j (h : j < zs.length), ∃ g off, ao = some ⟨g, off, none⟩ ∧ w.cell? ⟨g, off + j, none⟩ = some (.int .u64 zs[j])
theorem UL.below {B : Nat} {w w' : World} {v : Value} {zs : List Int} (h : UL w v zs) (hb : Below B w w') (hB : w.heap.size ≤ B) : UL w' v zs := by
  obtain ⟨hr, ao, cap, rfl, h1, h2, h3, h5⟩ := h
  refine ⟨hr, ao, cap, rfl, h1, h2, h3, fun j hj => ?_⟩
  obtain ⟨g, off, e, c0⟩ := h5 j hj
  refine ⟨g, off, e, ?_⟩
  rw [hb.cell (p := ⟨g, off + j, none⟩) (Nat.lt_of_lt_of_le (World.block_lt_of_cell? w _ c0) hB)]; exact c0
theorem wrap_i64 {n : Int} (h : n ≤ 9223372036854775807) (h0 : 0 ≤ n) : IntKind.i64.wrap n = n := by
  have e : n % 18446744073709551616 = n := Int.emod_eq_of_lt h0 (by omega)
  show (if (true && decide (n % 18446744073709551616 ≥ 9223372036854775808)) = true then n % 18446744073709551616 - 18446744073709551616 else n % 18446744073709551616) = n
  rw [e, if_neg (by simp; omega)]
/-- What the walk is told of a slice of numbers that came in. -/
theorem UL.of {w : World} {a : Option Addr} {len cap : Nat} {zs : List Int}
    (h : (a = none ∧ len = 0 ∧ cap = 0 ∧ zs = []) ∨ ∃ x, a = some x ∧ len ≤ cap ∧ cap ≤ maxLen ∧ zs.length = cap ∧ (∀ i, i < zs.length → w.cell? (x.add i) = some (.int .u64 (zs.getD i 0))) ∧ ∀ n ∈ zs, (Lit.int .u64 n).wf = true) :
    UL w (.slice a len cap) (zs.take len) := by
  rcases h with ⟨rfl, rfl, rfl, rfl⟩ | ⟨x, rfl, h1, h2, h3, h4, h5⟩
  · exact ⟨fun z hz => (by cases hz), none, 0, rfl, Nat.le_refl _, Nat.zero_le _, fun _ => ⟨rfl, rfl⟩, fun j hj => by simp at hj⟩
  · have hl : (zs.take len).length = len := by rw [List.length_take]; omega
    refine ⟨fun z hz => ?_, some x, cap, by rw [hl], by omega, h2, fun e => (by cases e), fun j hj => ?_⟩
    · have := h5 z (List.mem_of_mem_take hz)
      simp [Lit.wf, IntKind.max, IntKind.min, IntKind.signed, IntKind.bits] at this
      omega
    · have hc := h4 j (by omega)
      obtain ⟨g, off, spot⟩ := x
      have hs : spot = none := by
        cases spot with
        | none => rfl
        | some k =>
          exfalso
          have hc0 := h4 0 (by omega)
          unfold World.cell? at hc0
          split at hc0
          · simp [Addr.add] at hc0
          · cases hc0
      subst hs
      refine ⟨g, off, rfl, ?_⟩
      rw [Addr.add_lit] at hc
      rw [hc, List.getElem_take, List.getD_eq_getElem?_getD, List.getElem?_eq_getElem (by omega)]
      rfl
/-- Two and two, as far as a type holds them. -/
def pairsN (m : Int) (zs : List Int) (k : Nat) : List Sp := (List.range k).map fun i => (zs[2 * i]?.getD 0 % (m + 1), zs[2 * i + 1]?.getD 0 % (m + 1))
def pairs (m : Int) (zs : List Int) : List Sp := pairsN m zs (zs.length / 2)
theorem pairsN_length (m : Int) (zs : List Int) (k : Nat) : (pairsN m zs k).length = k := by simp [pairsN]
theorem pairsN_succ (m : Int) (zs : List Int) (k : Nat) : pairsN m zs (k + 1) = pairsN m zs k ++ [(zs[2 * k]?.getD 0 % (m + 1), zs[2 * k + 1]?.getD 0 % (m + 1))] := by
  simp [pairsN, List.range_succ]
theorem pairs_fits {m : Int} (hm : 0 ≤ m) (zs : List Int) : Fits m (pairs m zs) := by
  intro x hx
  obtain ⟨i, _, rfl⟩ := List.mem_map.1 hx
  have h1 := Int.emod_nonneg (zs[2 * i]?.getD 0) (show m + 1 ≠ 0 by omega)
  have h2 := Int.emod_lt_of_pos (zs[2 * i]?.getD 0) (show 0 < m + 1 by omega)
  have h3 := Int.emod_nonneg (zs[2 * i + 1]?.getD 0) (show m + 1 ≠ 0 by omega)
  have h4 := Int.emod_lt_of_pos (zs[2 * i + 1]?.getD 0) (show 0 < m + 1 by omega)
  exact ⟨h1, by show _ ≤ m; omega, h3, by show _ ≤ m; omega⟩
end Go.Proofs.YtfnikcjcgneboaaGreat.Sp
/- Whoever is told keeps two rows: both grow. Own work. -/
namespace Go.Proofs.YtfnikcjcgneboaaGreat
open Go.RowKit Go.Maps Go.Proofs.YtfnikcjcgneboaaGreat.Sp Wk Lv
theorem SlAt.notRw {w : World} {g : Nat} {t : TypeId} {v : Value} (h : SlAt w g t v) (ht : t ≠ 64 ∧ t ≠ 65) : ¬ Rw w g := not_rw h (by
  rintro ⟨c, t', fr, k, n, h, h2, _⟩
  cases h
  rcases h2 with h2 | h2
  · exact ht.1 h2
  · exact ht.2 h2)
/-- the two rows and their boxes -/
def Rows2 (bl bw base : Nat) (L : List Lf) (W : World) : Prop :=
  ∃ vl vw, SlAt W bl 55 vl ∧ SlAt W bw 56 vw ∧ OwnLf6 W base vl L ∧ OwnEr1 W base vw L ∧ (∀ k, vl.ownBlock = some k → Rw W k) ∧ (∀ k, vw.ownBlock = some k → Rw W k)
theorem Rows2.belowR {n bl bw base : Nat} {L : List Lf} {W W' : World} (h : Rows2 bl bw base L W) (hb : BelowR n W W') (h1 : bl < n) (h2 : bw < n) : Rows2 bl bw base L W' := by
  obtain ⟨vl, vw, s1, s2, o1, o2, r1, r2⟩ := h
  obtain ⟨p1, p2⟩ := o1.belowR r1 hb
  obtain ⟨p3, p4⟩ := o2.belowR r2 hb
  exact ⟨vl, vw, (hb.block bl s1.lt (.inl h1)).trans s1, (hb.block bw s2.lt (.inl h2)).trans s2, p1, p3, p2, p4⟩
theorem Rows2.keeps {Z : Nat → Prop} {bl bw base : Nat} {L : List Lf} {W W' : World} (h : Rows2 bl bw base L W) (hk : Keeps Z W W') (h1 : ¬ Z bl) (h2 : ¬ Z bw) (h3 : ∀ k, Rw W k → ¬ Z k) : Rows2 bl bw base L W' := by
  obtain ⟨vl, vw, s1, s2, o1, o2, r1, r2⟩ := h
  exact ⟨vl, vw, s1.keeps hk h1, s2.keeps hk h2, o1.keeps hk (fun k e => h3 k (r1 k e)), o2.keeps hk (fun k e => h3 k (r2 k e)), fun k e => (r1 k e).keeps hk (h3 k (r1 k e)), fun k e => (r2 k e).keeps hk (h3 k (r2 k e))⟩
theorem OwnLf6.form' {w : World} {base : Nat} {v : Value} {ps : List Lf} (h : OwnLf6 w base v ps) : ∃ a n c, v = .slice a n c ∧ n = ps.length ∧ c ≤ maxLen := by
  obtain ⟨a, c, h1, _, h2, _⟩ := h.form
  exact ⟨a, _, c, h1, rfl, h2⟩
theorem OwnEr1.form' {w : World} {base : Nat} {v : Value} {ps : List Lf} (h : OwnEr1 w base v ps) : ∃ a n c, v = .slice a n c ∧ n = ps.length ∧ c ≤ maxLen := by
  obtain ⟨a, c, h1, _, h2, _⟩ := h.form
  exact ⟨a, _, c, h1, rfl, h2⟩
/-- what the first append leaves -/
theorem tell1 {bl bw base : Nat} {L : List Lf} {W : World} (x : Lf) (h : Rows2 bl bw base L W) (hbw : bl ≠ bw) (hlen : L.length ≤ 1099511627776) (hbase : base ≤ W.heap.size) :
    ∃ (a : Option Addr) (n c : Nat) (a2 : Option Addr) (n2 c2 : Nat) (b : Option Addr) (nb cb : Nat) (w2 : World), W.cell? ⟨bl, 0, none⟩ = some (.slice a n c) ∧ (appLf6 55 #[.slice a n c, .slice (some ⟨W.heap.size, 0, none⟩) 1 1]).run Tryz.prog (W.alloc (Obj.cells #[.int .u64 (x.1 : Int), .int .u64 (x.2.1 : Int), .int .i64 (x.2.2.1 : Int), .bool x.2.2.2.1, .bool x.2.2.2.2.1, .bool x.2.2.2.2.2.1] 64)) = .ok (.value (.slice a2 n2 c2)) w2 ∧ w2.cell? ⟨bl, 0, none⟩ = some (.slice a n c) ∧ w2.frozen? ⟨bl, 0, none⟩ = false ∧
      (w2.setCell ⟨bl, 0, none⟩ (.slice a2 n2 c2)).cell? ⟨bw, 0, none⟩ = some (.slice b nb cb) ∧ KeepsR (fun k => k = bl) W (w2.setCell ⟨bl, 0, none⟩ (.slice a2 n2 c2)) ∧ Keeps (fun k => k = bl ∨ base ≤ k) W (w2.setCell ⟨bl, 0, none⟩ (.slice a2 n2 c2)) ∧
      SlAt (w2.setCell ⟨bl, 0, none⟩ (.slice a2 n2 c2)) bl 55 (.slice a2 n2 c2) ∧ SlAt (w2.setCell ⟨bl, 0, none⟩ (.slice a2 n2 c2)) bw 56 (.slice b nb cb) ∧ OwnLf6 (w2.setCell ⟨bl, 0, none⟩ (.slice a2 n2 c2)) base (.slice a2 n2 c2) (L ++ [x]) ∧ OwnEr1 (w2.setCell ⟨bl, 0, none⟩ (.slice a2 n2 c2)) base (.slice b nb cb) L ∧ (∀ k, (Value.slice b nb cb).ownBlock = some k → Rw (w2.setCell ⟨bl, 0, none⟩ (.slice a2 n2 c2)) k) := by
  obtain ⟨vl, vw, s1, s2, o1, o2, r1, r2⟩ := h
  obtain ⟨a, n, c, rfl, _, _⟩ := o1.form'
  obtain ⟨b, nb, cb, rfl, _, _⟩ := o2.form'
  obtain ⟨Wc, hWc⟩ : ∃ Wc, W.alloc (Obj.cells #[.int .u64 (x.1 : Int), .int .u64 (x.2.1 : Int), .int .i64 (x.2.2.1 : Int), .bool x.2.2.2.1, .bool x.2.2.2.2.1, .bool x.2.2.2.2.2.1] 64) = Wc := ⟨_, rfl⟩
  have hb : Below W.heap.size W Wc := hWc ▸ (Below.refl _ _).alloc (Nat.le_refl _) _
  have hk : Keeps (fun _ => False) W Wc := Keeps.of_below hb
  have o1c := o1.keeps hk (fun _ _ e => e)
  have hx : ∀ k, k < 6 → Wc.cell? ⟨W.heap.size, k, none⟩ = (encLf6 x)[k]? := fun k hk => by
    rw [← hWc, cell_of_row _ _ _ _ _ _ (heap_alloc_new W _)]
    match k, hk with
    | 0, _ => rfl
    | 1, _ => rfl
    | 2, _ => rfl
    | 3, _ => rfl
    | 4, _ => rfl
    | 5, _ => rfl
  obtain ⟨v2, w2, hr, ho, hg⟩ := run_appLf6 (cap := 1) 55 o1c hx hlen (Nat.le_trans hbase hb.size)
  obtain ⟨a2, n2, c2, rfl, _, _⟩ := ho.form'
  rw [hWc]
  have r1c : ∀ k, (Value.slice a n c).ownBlock = some k → Rw Wc k := fun k e => (r1 k e).keeps hk (fun e => e)
  have kg : Keeps (fun k => (Value.slice a n c).ownBlock = some k) Wc w2 := Keeps.of_grown hg
  have s1c : SlAt Wc bl 55 (.slice a n c) := s1.below hb
  have s2c : SlAt Wc bw 56 (.slice b nb cb) := s2.below hb
  have n1 : ¬ (Value.slice a n c).ownBlock = some bl := fun e => s1c.notRw (by decide) (r1c bl e)
  have n2' : ¬ (Value.slice a n c).ownBlock = some bw := fun e => s2c.notRw (by decide) (r1c bw e)
  have s1w : SlAt w2 bl 55 (.slice a n c) := s1c.keeps kg n1
  have s2w : SlAt w2 bw 56 (.slice b nb cb) := s2c.keeps kg n2'
  have ks := Keeps.setCell w2 bl 0 (.slice a2 n2 c2)
  have hro : ∀ k, (Value.slice a2 n2 c2).ownBlock = some k → Rw w2 k := ho.rw (by rw [List.length_append, List.length_singleton]; omega)
  have o2w : OwnEr1 w2 base (.slice b nb cb) L ∧ ∀ k, (Value.slice b nb cb).ownBlock = some k → Rw w2 k ∧ k ≠ bl := by
    have hap : ∀ k, (Value.slice b nb cb).ownBlock = some k → ¬ (Value.slice a n c).ownBlock = some k := fun k e1 e2 => by
      obtain ⟨_, _, _, _, _, f1⟩ := o1.form
      obtain ⟨_, _, _, _, _, f2⟩ := o2.form
      obtain ⟨_, cu1, g1⟩ := f1 k e2
      obtain ⟨_, cu2, g2⟩ := f2 k e1
      rw [g1] at g2
      cases g2
    refine ⟨(o2.keeps hk (fun _ _ e => e)).keeps kg hap, fun k e => ⟨((r2 k e).keeps hk (fun e => e)).keeps kg (hap k e), fun e' => ?_⟩⟩
    subst e'
    exact s1.notRw (by decide) (r2 k e)
  have hown : ∀ k, (Value.slice a n c).ownBlock = some k → base ≤ k := fun k e => by
    obtain ⟨_, _, _, _, _, f1⟩ := o1.form
    exact (f1 k e).1
  refine ⟨a, n, c, a2, n2, c2, b, nb, cb, w2, s1.cell.1, appLf6_run hr, s1w.cell.1, s1w.cell.2, (s2w.keeps ks (fun e => hbw e.symm)).cell.1, ?_, ?_, s1w.set _, s2w.keeps ks (fun e => hbw e.symm), ho.keeps ks (fun k e e' => ?_), o2w.1.keeps ks (fun k e e' => (o2w.2 k e).2 e'), fun k e => (o2w.2 k e).1.keeps ks (o2w.2 k e).2⟩
  · exact ((hk.r.mono (S' := fun k => k = bl) (fun _ _ e => e.elim)).trans (KeepsR.of_grown (S := fun _ => False) hg r1c) (fun _ _ e => e.elim)).trans ks.r (fun _ _ e => e)
  · exact ((hk.mono (S' := fun k => k = bl ∨ base ≤ k) (fun _ _ e => e.elim)).trans kg (fun k _ e => .inr (hown k e))).trans ks (fun _ _ e => .inl e)
  · have e' : k = bl := e'
    subst e'
    exact s1w.notRw (by decide) (hro k e)
/-- what the second append leaves -/
theorem tell2 {bl bw base : Nat} {L : List Lf} {W : World} {x : Lf} {vl : Value} {b : Option Addr} {nb cb : Nat} (hbw : bl ≠ bw) (hlen : L.length ≤ 1099511627776) (hbase : base ≤ W.heap.size) (s1 : SlAt W bl 55 vl) (s2 : SlAt W bw 56 (.slice b nb cb)) (o1 : OwnLf6 W base vl (L ++ [x])) (o2 : OwnEr1 W base (.slice b nb cb) L) (r2 : ∀ k, (Value.slice b nb cb).ownBlock = some k → Rw W k) :
    ∃ (b2 : Option Addr) (n2 c2 : Nat) (w2 : World), (appEr1 56 #[.slice b nb cb, .slice (some ⟨W.heap.size, 0, none⟩) 1 1]).run Tryz.prog (W.alloc (Obj.cells #[.int .i64 x.2.2.2.2.2.2] 65)) = .ok (.value (.slice b2 n2 c2)) w2 ∧ w2.cell? ⟨bw, 0, none⟩ = some (.slice b nb cb) ∧ w2.frozen? ⟨bw, 0, none⟩ = false ∧ KeepsR (fun k => k = bw) W (w2.setCell ⟨bw, 0, none⟩ (.slice b2 n2 c2)) ∧ Keeps (fun k => k = bw ∨ base ≤ k) W (w2.setCell ⟨bw, 0, none⟩ (.slice b2 n2 c2)) ∧ Rows2 bl bw base (L ++ [x]) (w2.setCell ⟨bw, 0, none⟩ (.slice b2 n2 c2)) := by
  obtain ⟨Wc, hWc⟩ : ∃ Wc, W.alloc (Obj.cells #[.int .i64 x.2.2.2.2.2.2] 65) = Wc := ⟨_, rfl⟩
  have hb : Below W.heap.size W Wc := hWc ▸ (Below.refl _ _).alloc (Nat.le_refl _) _
  have hk : Keeps (fun _ => False) W Wc := Keeps.of_below hb
  have o2c := o2.keeps hk (fun _ _ e => e)
  have hx : ∀ k, k < 1 → Wc.cell? ⟨W.heap.size, k, none⟩ = (encEr1 x)[k]? := fun k hk => by
    rw [← hWc, cell_of_row _ _ _ _ _ _ (heap_alloc_new W _)]
    match k, hk with
    | 0, _ => rfl
  obtain ⟨v2, w2, hr, ho, hg⟩ := run_appEr1 (cap := 1) 56 o2c hx hlen (Nat.le_trans hbase hb.size)
  obtain ⟨b2, n2, c2, rfl, _, _⟩ := ho.form'
  rw [hWc]
  have r2c : ∀ k, (Value.slice b nb cb).ownBlock = some k → Rw Wc k := fun k e => (r2 k e).keeps hk (fun e => e)
  have kg : Keeps (fun k => (Value.slice b nb cb).ownBlock = some k) Wc w2 := Keeps.of_grown hg
  have s1c : SlAt Wc bl 55 vl := s1.below hb
  have s2c : SlAt Wc bw 56 (.slice b nb cb) := s2.below hb
  have s1w : SlAt w2 bl 55 vl := s1c.keeps kg (fun e => s1c.notRw (by decide) (r2c bl e))
  have s2w : SlAt w2 bw 56 (.slice b nb cb) := s2c.keeps kg (fun e => s2c.notRw (by decide) (r2c bw e))
  have ks := Keeps.setCell w2 bw 0 (.slice b2 n2 c2)
  have hro : ∀ k, (Value.slice b2 n2 c2).ownBlock = some k → Rw w2 k := ho.rw (by rw [List.length_append, List.length_singleton]; omega)
  have hr1 : ∀ k, vl.ownBlock = some k → Rw W k := o1.rw (by rw [List.length_append, List.length_singleton]; omega)
  have hap : ∀ k, vl.ownBlock = some k → ¬ (Value.slice b nb cb).ownBlock = some k := fun k e1 e2 => by
    obtain ⟨_, _, _, _, _, f1⟩ := o1.form
    obtain ⟨_, _, _, _, _, f2⟩ := o2.form
    obtain ⟨_, cu1, g1⟩ := f1 k e1
    obtain ⟨_, cu2, g2⟩ := f2 k e2
    rw [g1] at g2
    cases g2
  have o1w : OwnLf6 w2 base vl (L ++ [x]) := (o1.keeps hk (fun _ _ e => e)).keeps kg hap
  have hr1w : ∀ k, vl.ownBlock = some k → Rw w2 k := fun k e => ((hr1 k e).keeps hk (fun e => e)).keeps kg (hap k e)
  have q1 : ∀ k, Rw w2 k → ¬ k = bw := fun k h e => by
    subst e
    exact s2w.notRw (by decide) h
  have hown : ∀ k, (Value.slice b nb cb).ownBlock = some k → base ≤ k := fun k e => by
    obtain ⟨_, _, _, _, _, f1⟩ := o2.form
    exact (f1 k e).1
  refine ⟨b2, n2, c2, w2, appEr1_run hr, s2w.cell.1, s2w.cell.2, ?_, ?_, vl, _, s1w.keeps ks hbw, s2w.set _, o1w.keeps ks (fun k e => q1 k (hr1w k e)), ho.keeps ks (fun k e => q1 k (hro k e)), fun k e => (hr1w k e).keeps ks (q1 k (hr1w k e)), fun k e => (hro k e).keeps ks (q1 k (hro k e))⟩
  · exact ((hk.r.mono (S' := fun k => k = bw) (fun _ _ e => e.elim)).trans (KeepsR.of_grown (S := fun _ => False) hg r2c) (fun _ _ e => e.elim)).trans ks.r (fun _ _ e => e)
  · exact ((hk.mono (S' := fun k => k = bw ∨ base ≤ k) (fun _ _ e => e.elim)).trans kg (fun k _ e => .inr (hown k e))).trans ks (fun _ _ e => .inl e)
end Go.Proofs.YtfnikcjcgneboaaGreat
