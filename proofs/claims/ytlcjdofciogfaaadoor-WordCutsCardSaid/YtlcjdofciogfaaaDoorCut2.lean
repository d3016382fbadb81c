/- WordCuts: the second loop: where the reader stands, what again and alike do there. Own work. -/
import Derived.Test.YtlcjdofciogfaaaDoorCutRow
namespace Go.Proofs.YtlcjdofciogfaaaDoor
open Go.RowKit
def In3 (w W : World) (q G : Nat) (vs ve : Value) (S : List OpV) (E : List Nat) (zs : List Nat) (n i b : Nat) : Prop :=
  ∃ A, A.length = b ∧ LaidE A (S.drop i) (E.drop i) zs ∧ b ≤ n ∧ Rd W q G (zs.take n) b 0 ∧ Steps W w.heap.size vs S ∧ Ends W w.heap.size ve E ∧ Below w.heap.size w W ∧ (∀ g, vs.ownBlock = some g → g ≠ q) ∧ (∀ g, ve.ownBlock = some g → g ≠ q) ∧ w.heap.size ≤ q ∧ w.heap.size ≤ G ∧ ∀ z ∈ zs, z < 256
theorem In3.keeps {w W W' : World} {q G : Nat} {vs ve : Value} {S : List OpV} {E zs : List Nat} {n i b : Nat} (h : In3 w W q G vs ve S E zs n i b) (hk : Keeps (fun _ => False) W W') : In3 w W' q G vs ve S E zs n i b := by
  obtain ⟨A, h1, h2, h3, h4, h5, h6, h7, h8⟩ := h
  exact ⟨A, h1, h2, h3, h4.keeps hk (fun h => h) (fun h => h), h5.keeps hk (fun _ _ h => h), h6.keeps hk (fun _ _ h => h), h7.trans (hk.below h7.size (fun _ _ h => h.elim)), h8⟩
theorem in3_len {w W : World} {q G : Nat} {vs ve : Value} {S : List OpV} {E zs : List Nat} {n i b : Nat} (h : In3 w W q G vs ve S E zs n i b) : S.length - i = E.length - i := by
  obtain ⟨A, h1, h2, _⟩ := h
  have := h2.len
  simpa using this
theorem in3_end {w W : World} {q G : Nat} {vs ve : Value} {S : List OpV} {E zs : List Nat} {n i b : Nat} (h : In3 w W q G vs ve S E zs n i b) (hi : S.length ≤ i) (hn : n < zs.length) : False := by
  obtain ⟨A, h1, h2, h3, _⟩ := h
  rw [List.drop_eq_nil_of_le hi] at h2
  cases hE : E.drop i with
  | nil => rw [hE] at h2; have e : zs = A := h2; rw [e] at hn; omega
  | cons x r => rw [hE] at h2; exact h2.elim
theorem in3_cell {w W : World} {q G : Nat} {vs : Value} {g m c : Nat} {S : List OpV} {E zs : List Nat} {n i b : Nat} (h : In3 w W q G vs (.slice (some ⟨g, 0, none⟩) m c) S E zs n i b) (j : Nat) (hj : j < E.length) : W.cell? ⟨g, j, none⟩ = some (.int .i64 (E[j] : Int)) := by
  obtain ⟨A, _, _, _, _, _, h6, _⟩ := h
  obtain ⟨g', c', e, hc⟩ := h6.at j hj
  cases e
  exact hc
theorem in3_again_yes {w W : World} {q G g ge m cap me ce : Nat} {S : List OpV} {E zs : List Nat} {n i b : Nat} (h : In3 w W q G (.slice (some ⟨g, 0, none⟩) m cap) (.slice (some ⟨ge, 0, none⟩) me ce) S E zs n i b) (hi : i < S.length) (hj : i < E.length) (hle : E[i] ≤ n) (ht : Tab w) (ho : Sl w S[i].pv S[i].ps ∧ S[i].n < 18446744073709551616) {a : Option Addr} {l c : Nat} (hp : S[i].pv = .slice a l c) :
    Calls Tryd.prog 21 #[.pointer (some ⟨q, 0, none⟩), .agg S[i].vals] W fun e w' => ∃ a' n' c' m' s' qs, e = .returned (.agg #[.int .i64 S[i].kind, .int .i64 0, .int .u64 ((m' : Nat) : Int), .int .i64 S[i].num, .slice a' n' c', .string s']) ∧ (Six2 w' g i S[i] a l c ∧ w'.cell? ⟨ge, i, none⟩ = some (.int .i64 (E[i] : Int))) ∧
      Hid (In3 w w' q G (.slice (some ⟨g, 0, none⟩) m cap) (.slice (some ⟨ge, 0, none⟩) me ce) S E zs n (i + 1) E[i]) ∧ Hid (Sl w' (.slice a' n' c') qs ∧ AlikeH S[i] ⟨S[i].kind, 0, m', S[i].num, .slice a' n' c', qs, s'⟩) := by
  obtain ⟨A, hA1, hL, hb, hR, hS, hE, hB, hsep, hsepe, hq, hG, hsm⟩ := h
  subst hA1
  rw [List.drop_eq_getElem_cons hi, List.drop_eq_getElem_cons hj] at hL
  obtain ⟨R, hR2⟩ := hL.2.2.grows
  obtain ⟨B, hB1, _⟩ := lay_grow A S[i]
  have hA : ∀ z ∈ A, z < 256 := fun z hz => hsm z (by rw [hR2, hB1]; simp [hz])
  have hlen := hL.2.1
  have hz : zs.take n = (layF A S[i]).1 ++ R.take (n - (layF A S[i]).1.length) := by
    rw [hR2, List.take_append, List.take_of_length_le (by omega)]
  obtain ⟨b1, b2, b3⟩ := back_step (R := R.take (n - (layF A S[i]).1.length)) hA hL.1 ho.2
  rw [← hz] at b1 b2 b3
  refine (again_any hR (ho.1.below hB) (ht.below hB)).mono ?_
  rintro e w' ⟨v', rfl, hsl, _, hag⟩
  obtain ⟨a', n', c', hv⟩ : ∃ a n c, v' = .slice a n c := by
    obtain ⟨a, c, e, _⟩ := hsl
    exact ⟨a, _, c, e⟩
  subst hv
  obtain ⟨g1, g2, g3, g4⟩ := hag
  rw [b1, b2, ← hlen] at g1
  have hst := hS.keeps g2 (fun j hj e => hsep j hj e)
  have hen := hE.keeps g2 (fun j hj e => hsepe j hj e)
  have hI : In3 w w' q G (.slice (some ⟨g, 0, none⟩) m cap) (.slice (some ⟨ge, 0, none⟩) me ce) S E zs n (i + 1) E[i] := ⟨_, hlen.symm, hL.2.2, hle, g1, hst, hen, hB.trans (g2.below hB.size (fun j _ e => by omega)), hsep, hsepe, hq, hG, hsm⟩
  exact ⟨a', n', c', _, _, _, rfl, ⟨hst.six hi hp, in3_cell hI i hj⟩, hI, hsl, b3 0 _⟩
theorem in3_again_no {w W : World} {q G g ge m cap me ce : Nat} {S : List OpV} {E zs : List Nat} {n i b : Nat} (h : In3 w W q G (.slice (some ⟨g, 0, none⟩) m cap) (.slice (some ⟨ge, 0, none⟩) me ce) S E zs n i b) (hi : i < S.length) (hj : i < E.length) (hlt : n < E[i]) (ht : Tab w) (ho : Sl w S[i].pv S[i].ps) {a : Option Addr} {l c : Nat} (hp : S[i].pv = .slice a l c) :
    Calls Tryd.prog 21 #[.pointer (some ⟨q, 0, none⟩), .agg S[i].vals] W fun e w' => ∃ a' n' c' m' s', e = .returned (.agg #[.int .i64 S[i].kind, .int .i64 0, .int .u64 ((m' : Nat) : Int), .int .i64 S[i].num, .slice a' n' c', .string s']) ∧ (Six2 w' g i S[i] a l c ∧ w'.cell? ⟨ge, i, none⟩ = some (.int .i64 (E[i] : Int))) ∧
      Hid (Rd w' q G (zs.take n) b 10) ∧ Hid (Below w.heap.size w w') := by
  obtain ⟨A, hA1, hL, hb, hR, hS, hE, hB, hsep, hsepe, hq, hG, hsm⟩ := h
  subst hA1
  rw [List.drop_eq_getElem_cons hi, List.drop_eq_getElem_cons hj] at hL
  obtain ⟨R, hR2⟩ := hL.2.2.grows
  have hlen := hL.2.1
  have hc := cut_step (R := R) (m := n) hL.1 hb (by omega)
  rw [← hR2] at hc
  have hag := again_any hR (ho.below hB) (ht.below hB)
  rw [hc] at hag
  refine hag.mono ?_
  rintro e w' ⟨v', rfl, hsl, _, hag⟩
  obtain ⟨a', n', c', hv⟩ : ∃ a n c, v' = .slice a n c := by
    obtain ⟨a, c, e, _⟩ := hsl
    exact ⟨a, _, c, e⟩
  subst hv
  obtain ⟨g1, g2, g3, g4⟩ := hag
  have hst := hS.keeps g2 (fun j hj e => hsep j hj e)
  have hen := hE.keeps g2 (fun j hj e => hsepe j hj e)
  obtain ⟨g', c2, e, hcell⟩ := hen.at i hj
  cases e
  exact ⟨a', n', c', _, _, rfl, ⟨hst.six hi hp, hcell⟩, g1, hB.trans (g2.below hB.size (fun j _ e => by omega))⟩
theorem Keeps.cell {w w' : World} (hk : Keeps (fun _ => False) w w') {g i : Nat} {u : Value} (hc : w.cell? ⟨g, i, none⟩ = some u) : w'.cell? ⟨g, i, none⟩ = some u := by
  rw [World.cell?_of_block (w := w) (a := ⟨g, i, none⟩) (hk.block g (World.block_lt_of_cell? w _ hc) (fun h => h))]
  exact hc
theorem in3_alike {w W : World} {q G g ge m cap me ce : Nat} {S : List OpV} {E zs : List Nat} {n i k b : Nat} (h : In3 w W q G (.slice (some ⟨g, 0, none⟩) m cap) (.slice (some ⟨ge, 0, none⟩) me ce) S E zs n k b) (hi : i < S.length) (hj : i < E.length) (ho : Sl w S[i].pv S[i].ps) {a : Option Addr} {l c : Nat} (hp : S[i].pv = .slice a l c) {o : OpV} (hb : Sl W o.pv o.ps) (hA : AlikeH S[i] o) :
    Calls Tryd.prog 26 #[.agg S[i].vals, .agg o.vals] W fun e w' => e = .returned (.bool true) ∧ (Six2 w' g i S[i] a l c ∧ w'.cell? ⟨ge, i, none⟩ = some (.int .i64 (E[i] : Int))) ∧ Hid (In3 w w' q G (.slice (some ⟨g, 0, none⟩) m cap) (.slice (some ⟨ge, 0, none⟩) me ce) S E zs n k b) ∧ Hid (Keeps (fun _ => False) W w') := by
  have hB : Below w.heap.size w W := by obtain ⟨_, _, _, _, _, _, _, hB, _⟩ := h; exact hB
  refine (alike_any (ho.below hB) hb hA).mono ?_
  rintro e w' ⟨rfl, hk⟩
  have h' := h.keeps hk
  have hst : Steps w' w.heap.size (.slice (some ⟨g, 0, none⟩) m cap) S := by obtain ⟨_, _, _, _, _, hS, _⟩ := h'; exact hS
  exact ⟨rfl, ⟨hst.six hi hp, in3_cell h' i hj⟩, h', hk⟩
theorem in3_rd {w W : World} {q G : Nat} {vs ve : Value} {S : List OpV} {E zs : List Nat} {n i b : Nat} (h : In3 w W q G vs ve S E zs n i b) : Rd W q G (zs.take n) b 0 := by
  obtain ⟨_, _, _, _, hR, _⟩ := h
  exact hR
end Go.Proofs.YtlcjdofciogfaaaDoor
