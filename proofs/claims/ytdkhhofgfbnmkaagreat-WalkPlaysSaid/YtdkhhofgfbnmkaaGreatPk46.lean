import Derived.Test.YtdkhhofgfbnmkaaGreatPk43
import Derived.Test.YtdkhhofgfbnmkaaGreatPk44
import Derived.Test.YtdkhhofgfbnmkaaGreatPk45
import Derived.Test.YtdkhhofgfbnmkaaGreatPk41
import Derived.Deep.DeepCutAuto
import Derived.Deep.RegionHeld3
import Derived.Test.YtdkhhofgfbnmkaaGreatPk38
import Derived.Test.YtdkhhofgfbnmkaaGreatPk24
/- WalkPlays: each call of the law over the two machines. Own work. -/
namespace Go.Proofs.YtdkhhofgfbnmkaaGreat
open Go.RowKit Go.Maps Go.Proofs.YtdkhhofgfbnmkaaGreat.Sp Wk Lv
/-- a block of the law's own: none of the machines' -/
def NoM (t : TypeId) : Prop := t ≠ 49 ∧ t ≠ 52 ∧ t ≠ 5 ∧ t ≠ 170
/-- the law's own blocks from base on stay -/
def Bx (base : Nat) (w w' : World) : Prop := w.heap.size ≤ w'.heap.size ∧ ∀ g c t fr, base ≤ g → w.heap[g]? = some (.cells c t fr) → NoM t → w'.heap[g]? = some (.cells c t fr)
theorem Bx.refl (base : Nat) (w : World) : Bx base w w := ⟨Nat.le_refl _, fun _ _ _ _ _ h _ => h⟩
theorem Bx.trans {base : Nat} {a b c : World} (h : Bx base a b) (k : Bx base b c) : Bx base a c := ⟨Nat.le_trans h.1 k.1, fun g c t fr hg hc ht => k.2 g c t fr hg (h.2 g c t fr hg hc ht) ht⟩
theorem Bx.below {base : Nat} {w w' : World} (h : Below w.heap.size w w') : Bx base w w' := ⟨h.size, fun g _ _ _ _ hc _ => (h.block g (Array.getElem?_eq_some_iff.1 hc).1).trans hc⟩
theorem Bx.kv {base : Nat} {w w' : World} (h : Kv base w w') : Bx base w w' := ⟨Keeps.size h, fun g c t fr hg hc ht => (Keeps.block h g (Array.getElem?_eq_some_iff.1 hc).1 (fun hv => by
  obtain ⟨_, c', t', fr', hc', ht'⟩ := hv
  rw [hc] at hc'
  cases hc'
  rcases ht' with e | e | e
  · exact ht.1 e
  · exact ht.2.1 e
  · exact ht.2.2.1 e)).trans hc⟩
section
variable {w0 wr W' : World} {base m B : Nat} {V : Value × Value × Value} {v : Nat} {vr vd : Value} {rs ds : List Sp} {p q p' q' : Hs} {n k n' k' : Nat}
/-- what the machine of the program's own does leaves the document's as it was -/
theorem gm_pack1 {T T' : Nat → Option Nat} {X : Nat} (h1 : Mac wr m B V T p.1 rs ds p.2.1 p.2.2 X) (h2 : ∀ j, Mine m B V T j → w0.heap.size ≤ j) (h3 : ∀ j, Mine m B V (fun _ => none) j → j < base) (h4 : w0.heap.size ≤ base) (h5 : base ≤ wr.heap.size) (h6 : Below w0.heap.size w0 wr) (h7 : ∃ vp ps X', X' ≤ k ∧ RM wr base v vr vd vp ps q.1 q.2.1 q.2.2 X' ∧ ∀ x ∈ ps, Og (rs ++ ds) x.1)
    (hk : Keeps (fun j => j = m ∨ Foot B T j) wr W') (hy : My W' m B V T' p'.1 rs ds p'.2.1 p'.2.2 n') (hg : Grows wr.heap.size T T') : GMg w0 W' base m B V v vr vd rs ds p' q n' k ∧ Bx base wr W' := by
  have hz : ∀ j, (j = m ∨ Foot B T j) → w0.heap.size ≤ j := fun j e => h2 j (e.elim .inl (fun e => .inr (.inl e)))
  obtain ⟨vp, ps, X', hX', h7, h8⟩ := h7
  have hRM : RM W' base v vr vd vp ps q.1 q.2.1 q.2.2 X' := h7.keeps hk (fun j hv e => mine_notVB h1.mx h3 j (e.elim .inl (fun e => .inr (.inl e))) hv)
  have hB := below_keeps h6 hk hz
  obtain ⟨X2, hX2, hm'⟩ := hy
  refine ⟨⟨T', X2, hX2, hm', fun j hj => ?_, h3, h4, Nat.le_trans h5 hk.size, hB, vp, ps, X', hX', hRM, h8⟩, hk.size, fun g c t fr hg hc ht => (hk.block g (Array.getElem?_eq_some_iff.1 hc).1 (fun e => ?_)).trans hc⟩
  · rcases hj with rfl | (rfl | ⟨i, hi⟩) | hj
    · exact h2 _ (.inl rfl)
    · exact h2 _ (.inr (.inl (.inl rfl)))
    · rcases hg i j hi with hi | hi
      · exact h2 _ (.inr (.inl (.inr ⟨i, hi⟩)))
      · exact Nat.le_trans h6.size hi
    · exact h2 _ (.inr (.inr hj))
  · rcases e with rfl | rfl | ⟨i, hi⟩
    · have := h3 _ (.inl rfl); omega
    · have := h3 _ (.inr (.inl (.inl rfl))); omega
    · obtain ⟨G, _, _, _, _, _, _, _, _, hh, _⟩ := h1
      have hp : wr.heap[g]? = _ := (hh.2.1 i g hi).1
      rw [hp] at hc
      injection hc with hc
      injection hc with _ hc _
      exact ht.2.2.2 hc.symm
/-- what the document's machine does leaves the program's as it was -/
theorem gm_pack2 {T : Nat → Option Nat} {X : Nat} (hX : X ≤ n) (h1 : Mac wr m B V T p.1 rs ds p.2.1 p.2.2 X) (h2 : ∀ j, Mine m B V T j → w0.heap.size ≤ j) (h3 : ∀ j, Mine m B V (fun _ => none) j → j < base) (h4 : w0.heap.size ≤ base) (h5 : base ≤ wr.heap.size) (h6 : Below w0.heap.size w0 wr)
    (hk : Kv base wr W') (hr : ∃ vp ps X', X' ≤ k' ∧ RM W' base v vr vd vp ps q'.1 q'.2.1 q'.2.2 X' ∧ ∀ x ∈ ps, Og (rs ++ ds) x.1) : GMg w0 W' base m B V v vr vd rs ds p q' n k' ∧ Bx base wr W' := by
  have hM : Mac W' m B V T p.1 rs ds p.2.1 p.2.2 X := h1.keeps hk (mine_notVB h1.mx h3)
  have hB := below_keeps h6 hk (fun j e => Nat.le_trans h4 e.1)
  exact ⟨⟨T, X, hX, hM, h2, h3, h4, Nat.le_trans h5 (Keeps.size hk), hB, hr⟩, Bx.kv hk⟩
theorem gm_tr1 {t vi : Nat} {acc : Int} (h : GMg w0 wr base m B V v vr vd rs ds p q n k) (ht : t ≤ 18446744073709551615) (hv : vi ≤ 18446744073709551615) (hn : n ≤ 4611686018427370000) :
    Calls Tryz.prog 20 #[.iface 28 (.pointer (some ⟨m, 0, none⟩)), .int .u64 (t : Int), .int .u64 (vi : Int), .int .i64 acc] wr fun e w' => e = .returned (.tuple #[.int .u64 ((adrF (rs ++ ds) p.1 t vi acc).1 : Int), .agg #[.int .i64 (adrF (rs ++ ds) p.1 t vi acc).2, .int .u64 (whyAt (adrF (rs ++ ds) p.1 t vi acc).2 vi : Int)]]) ∧ Hid (GMg w0 w' base m B V v vr vd rs ds p q (n + 1) k) ∧ Hid (Bx base wr w') := by
  obtain ⟨T, X, hX, h1, h2, h3, h4, h5, h6, h7⟩ := h
  refine (translate_y ⟨X, hX, h1⟩ ht hv (by omega)).mono ?_
  rintro e w' ⟨rfl, hy, hk⟩
  obtain ⟨r1, r2⟩ := gm_pack1 h1 h2 h3 h4 h5 h6 h7 (hk.out.mono (fun _ _ e => .inl e)) hy.out (Grows.refl _ _)
  exact ⟨rfl, r1, r2⟩
theorem gm_tr2 {t vi : Nat} {acc : Int} (h : GMg w0 wr base m B V v vr vd rs ds p q n k) (hr : U64.SV w0 vr rs) (hd : U64.SV w0 vd ds) (hl : rs.length + ds.length ≤ 64) (ht : t ≤ 18446744073709551615) (hv : vi ≤ 18446744073709551615) (hn : k ≤ 4611686018427370000) :
    Calls Tryz.prog 21 #[.pointer (some ⟨v, 0, none⟩), .int .u64 (t : Int), .int .u64 (vi : Int), .int .i64 acc] wr fun e w' => e = .returned (.tuple #[.int .u64 ((adrF (rs ++ ds) q.1 t vi acc).1 : Int), .agg #[.int .i64 (adrF (rs ++ ds) q.1 t vi acc).2, .int .u64 (whyAt (adrF (rs ++ ds) q.1 t vi acc).2 vi : Int)]]) ∧ Hid (GMg w0 w' base m B V v vr vd rs ds p q n k) ∧ Hid (Bx base wr w') := by
  obtain ⟨T, X, hX, h1, h2, h3, h4, h5, h6, vp, ps, X', hX', h7, h8⟩ := h
  refine (rtrans_at h7 h6 (Nat.le_trans h4 h7.1) h7.2.1.lt hr hd h1.mx.sane hl (by omega) ht hv).mono ?_
  rintro e w' ⟨rfl, hm, hk⟩
  obtain ⟨r1, r2⟩ := gm_pack2 hX h1 h2 h3 h4 h5 h6 (Kv.of hk (fun j _ e => by rw [show j = v from e]; exact ⟨h7.1, _, _, _, h7.2.1, .inl rfl⟩)) ⟨vp, ps, X', hX', hm, h8⟩
  exact ⟨rfl, r1, r2⟩
open Classical in
/-- what a Load or a Fetch answers, of whatever width -/
noncomputable def ldA (LL : List Sp) (M : Nat → Nat) (t v : Nat) (acc n : Int) : Nat × Int × Nat := if 0 ≤ n ∧ Wide n.toNat then takeV LL M t v acc n.toNat else (0, 31, v)
open Classical in
noncomputable def ldC (LL : List Sp) (M : Nat → Nat) (t v : Nat) (acc n : Int) : Nat := if 0 ≤ n ∧ Wide n.toNat then tkC LL M t v acc n.toNat else 0
theorem ldC_le (LL : List Sp) (M : Nat → Nat) (t v : Nat) (acc n : Int) : ldC LL M t v acc n ≤ 8 := by
  unfold ldC
  split
  · rename_i h
    unfold tkC
    split
    · omega
    · rcases h.2 with e | e | e | e <;> omega
  · omega
theorem not_wide_of {n : Int} (h : ¬ (0 ≤ n ∧ Wide n.toNat)) : ∀ k : Nat, Wide k → n ≠ (k : Int) := fun k hk e => h ⟨by omega, by rw [e]; exact hk⟩
theorem gm_ld1 {t vi : Nat} {nn : Int} (h : GMg w0 wr base m B V v vr vd rs ds p q n k) (ht : t ≤ 18446744073709551615) (hn : n ≤ 4611686018427360000) (hL : p.2.1 ≤ 4611686018427360000) :
    Calls Tryz.prog 14 #[.iface 28 (.pointer (some ⟨m, 0, none⟩)), .int .u64 (t : Int), .int .u64 (vi : Int), .int .i64 nn] wr fun e w' => e = .returned (.tuple #[.int .u64 ((ldA (rs ++ ds) p.1 t vi 1 nn).1 : Int), .agg #[.int .i64 (ldA (rs ++ ds) p.1 t vi 1 nn).2.1, .int .u64 ((ldA (rs ++ ds) p.1 t vi 1 nn).2.2 : Int)]]) ∧ Hid (GMg w0 w' base m B V v vr vd rs ds (p.1, p.2.1 + ldC (rs ++ ds) p.1 t vi 1 nn, p.2.2) q (n + 32) k) ∧ Hid (Bx base wr w') := by
  by_cases hw : 0 ≤ nn ∧ Wide nn.toNat
  · obtain ⟨kk, rfl⟩ : ∃ kk : Nat, nn = (kk : Int) := ⟨nn.toNat, by omega⟩
    have hw2 : Wide kk := by have := hw.2; rwa [Int.toNat_natCast] at this
    obtain ⟨T, X, hX, h1, h2, h3, h4, h5, h6, h7⟩ := h
    rw [ldA, ldC, if_pos hw, if_pos hw, Int.toNat_natCast]
    refine (wload_y (v := vi) ⟨X, hX, h1⟩ (by omega) ht (by omega) hw2).mono ?_
    rintro e w' ⟨rfl, hy, hk⟩
    obtain ⟨r1, r2⟩ := gm_pack1 (p' := (p.1, p.2.1 + tkC (rs ++ ds) p.1 t vi 1 kk, p.2.2)) h1 h2 h3 h4 h5 h6 h7 (hk.out.mono (fun _ _ e => .inl e)) hy.out (Grows.refl _ _)
    exact ⟨rfl, r1, r2⟩
  · rw [ldA, ldC, if_neg hw, if_neg hw]
    refine (wload_no (not_wide_of hw) wr).mono ?_
    rintro e w' ⟨rfl, hb⟩
    obtain ⟨T, X, hX, h1⟩ := h.below hb
    exact ⟨rfl, ⟨T, X, by omega, h1⟩, Bx.below hb⟩
theorem gm_ft1 {t vi : Nat} {nn : Int} (h : GMg w0 wr base m B V v vr vd rs ds p q n k) (ht : t ≤ 18446744073709551615) (hn : n ≤ 4611686018427360000) (hL : p.2.1 ≤ 4611686018427360000) :
    Calls Tryz.prog 15 #[.iface 28 (.pointer (some ⟨m, 0, none⟩)), .int .u64 (t : Int), .int .u64 (vi : Int), .int .i64 nn] wr fun e w' => e = .returned (.tuple #[.int .u64 ((ldA (rs ++ ds) p.1 t vi 3 nn).1 : Int), .agg #[.int .i64 (ldA (rs ++ ds) p.1 t vi 3 nn).2.1, .int .u64 ((ldA (rs ++ ds) p.1 t vi 3 nn).2.2 : Int)]]) ∧ Hid (GMg w0 w' base m B V v vr vd rs ds (p.1, p.2.1 + ldC (rs ++ ds) p.1 t vi 3 nn, p.2.2) q (n + 32) k) ∧ Hid (Bx base wr w') := by
  by_cases hw : 0 ≤ nn ∧ Wide nn.toNat
  · obtain ⟨kk, rfl⟩ : ∃ kk : Nat, nn = (kk : Int) := ⟨nn.toNat, by omega⟩
    have hw2 : Wide kk := by have := hw.2; rwa [Int.toNat_natCast] at this
    obtain ⟨T, X, hX, h1, h2, h3, h4, h5, h6, h7⟩ := h
    rw [ldA, ldC, if_pos hw, if_pos hw, Int.toNat_natCast]
    refine (wfetch_y (v := vi) ⟨X, hX, h1⟩ (by omega) ht (by omega) hw2).mono ?_
    rintro e w' ⟨rfl, hy, hk⟩
    obtain ⟨r1, r2⟩ := gm_pack1 (p' := (p.1, p.2.1 + tkC (rs ++ ds) p.1 t vi 3 kk, p.2.2)) h1 h2 h3 h4 h5 h6 h7 (hk.out.mono (fun _ _ e => .inl e)) hy.out (Grows.refl _ _)
    exact ⟨rfl, r1, r2⟩
  · rw [ldA, ldC, if_neg hw, if_neg hw]
    refine (wfetch_no (not_wide_of hw) wr).mono ?_
    rintro e w' ⟨rfl, hb⟩
    obtain ⟨T, X, hX, h1⟩ := h.below hb
    exact ⟨rfl, ⟨T, X, by omega, h1⟩, Bx.below hb⟩
theorem gm_ld2 {t vi : Nat} {acc nn : Int} (h : GMg w0 wr base m B V v vr vd rs ds p q n k) (hr : U64.SV w0 vr rs) (hd : U64.SV w0 vd ds) (hl : rs.length + ds.length ≤ 64) (ht : t ≤ 18446744073709551615) (hn : k ≤ 4611686018427370000) (hL : q.2.1 ≤ 4611686018427360000) :
    Calls Tryz.prog 23 #[.pointer (some ⟨v, 0, none⟩), .int .u64 (t : Int), .int .u64 (vi : Int), .int .i64 nn, .int .i64 acc] wr fun e w' => e = .returned (.tuple #[.int .u64 ((ldA (rs ++ ds) q.1 t vi acc nn).1 : Int), .agg #[.int .i64 (ldA (rs ++ ds) q.1 t vi acc nn).2.1, .int .u64 ((ldA (rs ++ ds) q.1 t vi acc nn).2.2 : Int)]]) ∧ Hid (GMg w0 w' base m B V v vr vd rs ds p (q.1, q.2.1 + ldC (rs ++ ds) q.1 t vi acc nn, q.2.2) n k) ∧ Hid (Bx base wr w') := by
  by_cases hw : 0 ≤ nn ∧ Wide nn.toNat
  · obtain ⟨kk, rfl⟩ : ∃ kk : Nat, nn = (kk : Int) := ⟨nn.toNat, by omega⟩
    have hw2 : Wide kk := by have := hw.2; rwa [Int.toNat_natCast] at this
    obtain ⟨T, X, hX, h1, h2, h3, h4, h5, h6, vp, ps, X', hX', h7, h8⟩ := h
    rw [ldA, ldC, if_pos hw, if_pos hw, Int.toNat_natCast]
    refine (rld_of h7 h6 (Nat.le_trans h4 h7.1) h7.2.1.lt hr hd h1.mx.sane hl (by omega) (by omega) ht hw2).mono ?_
    rintro e w' ⟨hk, ⟨why, x, hre, rfl, hm⟩ | ⟨hre, rfl, hm⟩⟩
    · obtain ⟨r1, r2⟩ := gm_pack2 (q' := q) hX h1 h2 h3 h4 h5 h6 (Kv.of hk (fun j _ e => by rw [show j = v from e]; exact ⟨h7.1, _, _, _, h7.2.1, .inl rfl⟩)) ⟨vp, ps, X', hX', hm, h8⟩
      refine ⟨?_, ?_, r2⟩
      · rw [takeV, hre]
        rfl
      · rw [tkC, hre]
        exact r1
    · obtain ⟨r1, r2⟩ := gm_pack2 (q' := (q.1, q.2.1 + kk, q.2.2)) hX h1 h2 h3 h4 h5 h6 (Kv.of hk (fun j _ e => by rw [show j = v from e]; exact ⟨h7.1, _, _, _, h7.2.1, .inl rfl⟩)) ⟨vp, ps, X', hX', hm, h8⟩
      refine ⟨?_, ?_, r2⟩
      · rw [takeV, hre, take_sm hw2]
        rfl
      · rw [tkC, hre]
        exact r1
  · rw [ldA, ldC, if_neg hw, if_neg hw]
    refine (rld_no (not_wide_of hw) wr).mono ?_
    rintro e w' ⟨rfl, hb⟩
    exact ⟨rfl, h.below hb, Bx.below hb⟩
open Classical in
/-- what a Store answers and leaves, of whatever width -/
noncomputable def stA (LL : List Sp) (M : Nat → Nat) (t v : Nat) (n : Int) : Int × Nat := if 0 ≤ n ∧ Wide n.toNat then (match reachF LL M t v 2 n.toNat with | some x => x | none => (0, 0)) else (31, v)
open Classical in
noncomputable def stH (LL : List Sp) (t v val : Nat) (n : Int) (p : Hs) : Hs := if 0 ≤ n ∧ Wide n.toNat then (match reachF LL p.1 t v 2 n.toNat with | some _ => p | none => (stM LL p.1 t v val n.toNat, p.2.1, p.2.2 + n.toNat)) else p
theorem stH_le (LL : List Sp) (t v val : Nat) (n : Int) (p : Hs) : (stH LL t v val n p).2.1 = p.2.1 ∧ (stH LL t v val n p).2.2 ≤ p.2.2 + 8 := by
  unfold stH
  split
  · rename_i h
    split
    · exact ⟨rfl, by omega⟩
    · refine ⟨rfl, ?_⟩
      show p.2.2 + n.toNat ≤ _
      rcases h.2 with e | e | e | e <;> omega
  · exact ⟨rfl, by omega⟩
theorem gm_st1 {t vi val : Nat} {nn : Int} (h : GMg w0 wr base m B V v vr vd rs ds p q n k) (ht : t ≤ 18446744073709551615) (hval : val ≤ 18446744073709551615) (hn : n ≤ 4611686018427360000) (hS : p.2.2 ≤ 4611686018427360000) :
    Calls Tryz.prog 24 #[.iface 28 (.pointer (some ⟨m, 0, none⟩)), .int .u64 (t : Int), .int .u64 (vi : Int), .int .i64 nn, .int .u64 (val : Int)] wr fun e w' => e = .returned (.agg #[.int .i64 (stA (rs ++ ds) p.1 t vi nn).1, .int .u64 ((stA (rs ++ ds) p.1 t vi nn).2 : Int)]) ∧ Hid (GMg w0 w' base m B V v vr vd rs ds (stH (rs ++ ds) t vi val nn p) q (n + 32) k) ∧ Hid (Bx base wr w') := by
  by_cases hw : 0 ≤ nn ∧ Wide nn.toNat
  · obtain ⟨kk, rfl⟩ : ∃ kk : Nat, nn = (kk : Int) := ⟨nn.toNat, by omega⟩
    have hw2 : Wide kk := by have := hw.2; rwa [Int.toNat_natCast] at this
    obtain ⟨T, X, hX, h1, h2, h3, h4, h5, h6, h7⟩ := h
    rw [stA, stH, if_pos hw, if_pos hw, Int.toNat_natCast]
    refine (wstore_y (v := vi) (val := val) ⟨X, hX, h1⟩ (by omega) ht hval (by omega) hw2).mono ?_
    rintro e w' (⟨why, x, hre, rfl, hy, hk⟩ | ⟨hre, _, rfl, T', hy, hg, hk⟩)
    · rw [hre]
      obtain ⟨r1, r2⟩ := gm_pack1 (p' := p) h1 h2 h3 h4 h5 h6 h7 (hk.mono (fun _ _ e => .inl e)) hy (Grows.refl _ _)
      exact ⟨rfl, r1, r2⟩
    · rw [hre]
      obtain ⟨r1, r2⟩ := gm_pack1 (p' := (stM (rs ++ ds) p.1 t vi val kk, p.2.1, p.2.2 + kk)) h1 h2 h3 h4 h5 h6 h7 hk hy hg
      exact ⟨rfl, r1, r2⟩
  · rw [stA, stH, if_neg hw, if_neg hw]
    refine (wstore_no (not_wide_of hw) wr).mono ?_
    rintro e w' ⟨rfl, hb⟩
    obtain ⟨T, X, hX, h1⟩ := h.below hb
    exact ⟨rfl, ⟨T, X, by omega, h1⟩, Bx.below hb⟩
theorem gm_st2 {t vi val : Nat} {nn : Int} (h : GMg w0 wr base m B V v vr vd rs ds p q n k) (hr : U64.SV w0 vr rs) (hd : U64.SV w0 vd ds) (hl : rs.length + ds.length ≤ 64) (hpg : Pgd (rs ++ ds)) (ht : t ≤ 18446744073709551615) (hval : val ≤ 18446744073709551615) (hn : k ≤ 4611686018427370000) (hS : q.2.2 ≤ 4611686018427360000) :
    Calls Tryz.prog 25 #[.pointer (some ⟨v, 0, none⟩), .int .u64 (t : Int), .int .u64 (vi : Int), .int .i64 nn, .int .u64 (val : Int)] wr fun e w' => e = .returned (.agg #[.int .i64 (stA (rs ++ ds) q.1 t vi nn).1, .int .u64 ((stA (rs ++ ds) q.1 t vi nn).2 : Int)]) ∧ Hid (GMg w0 w' base m B V v vr vd rs ds p (stH (rs ++ ds) t vi val nn q) n k) ∧ Hid (Bx base wr w') := by
  by_cases hw : 0 ≤ nn ∧ Wide nn.toNat
  · obtain ⟨kk, rfl⟩ : ∃ kk : Nat, nn = (kk : Int) := ⟨nn.toNat, by omega⟩
    have hw2 : Wide kk := by have := hw.2; rwa [Int.toNat_natCast] at this
    obtain ⟨T, X, hX, h1, h2, h3, h4, h5, h6, vp, ps, X', hX', h7, h8⟩ := h
    rw [stA, stH, if_pos hw, if_pos hw, Int.toNat_natCast]
    refine (rst_g (Gp := Og (rs ++ ds)) h7 h6 h4 h5 (Nat.le_trans h4 h7.1) h7.2.1.lt hr hd h1.mx.sane hl (by omega) (by omega) ht hval hw2 h8 (og_of hpg)).mono ?_
    rintro e w' ⟨hk, ⟨why, x, hre, rfl, vp', ps', hm, hg⟩ | ⟨hre, rfl, vp', ps', hm, hg⟩⟩
    · rw [hre]
      obtain ⟨r1, r2⟩ := gm_pack2 (q' := q) hX h1 h2 h3 h4 h5 h6 hk ⟨vp', ps', X', hX', hm, hg⟩
      exact ⟨rfl, r1, r2⟩
    · rw [hre]
      obtain ⟨r1, r2⟩ := gm_pack2 (q' := (stM (rs ++ ds) q.1 t vi val kk, q.2.1, q.2.2 + kk)) hX h1 h2 h3 h4 h5 h6 hk ⟨vp', ps', X', hX', hm, hg⟩
      exact ⟨rfl, r1, r2⟩
  · rw [stA, stH, if_neg hw, if_neg hw]
    refine (rst_no (not_wide_of hw) wr).mono ?_
    rintro e w' ⟨rfl, hb⟩
    exact ⟨rfl, h.below hb, Bx.below hb⟩
end
set_option maxRecDepth 100000 in
set_option maxHeartbeats 2000000 in
theorem same_one (a b : Int) (w : World) : Calls Tryz.prog 22 #[.agg #[.int .i64 a, .int .u64 b], .agg #[.int .i64 a, .int .u64 b]] w fun e w' => e = .returned (.bool true) ∧ Below w.heap.size w w' := by
  obtain ⟨W1, hW1⟩ : ∃ W1, w.alloc (Obj.cells #[.int .i64 a, .int .u64 b] 57) = W1 := ⟨_, rfl⟩
  have hb1 : Below w.heap.size w W1 := hW1 ▸ (Below.refl _ _).alloc (Nat.le_refl _) _
  have hf1 : BoxF W1 w.heap.size a b := hW1 ▸ BoxF.new w a b
  obtain ⟨W2, hW2⟩ : ∃ W2, W1.alloc (Obj.cells #[.int .i64 a, .int .u64 b] 41) = W2 := ⟨_, rfl⟩
  have hb2 : Below W1.heap.size W1 W2 := hW2 ▸ (Below.refl _ _).alloc (Nat.le_refl _) _
  have hg2 : BoxG W2 W1.heap.size a b := hW2 ▸ BoxG.new W1 a b
  have hf2 := hf1.below hb2
  have HB : Hid (Below w.heap.size w W2) := hb1.trans (hb2.mono hb1.size)
  obtain ⟨x0, x1, _, _⟩ := hf2.cells
  obtain ⟨y0, y1, _, _⟩ := hg2.cells
  clear hb1 hb2 hf1 hf2 hg2
  go_enter Tryz.func22, Tryz.ntmps22
  go_wp2_with fail
  go_ret
  exact ⟨rfl, HB.out⟩
end Go.Proofs.YtdkhhofgfbnmkaaGreat
/- WalkPlays: a step: Translate, Load, Fetch. Own work. -/
namespace Go.Proofs.YtdkhhofgfbnmkaaGreat
open Go.RowKit Go.Maps Go.Proofs.YtdkhhofgfbnmkaaGreat.Sp Wk Lv
theorem GMg.mono {w0 wr : World} {base m B : Nat} {V : Value × Value × Value} {v : Nat} {vr vd : Value} {rs ds : List Sp} {p q : Hs} {n k n' k' : Nat} (h : GMg w0 wr base m B V v vr vd rs ds p q n k) (hn : n ≤ n') (hk : k ≤ k') : GMg w0 wr base m B V v vr vd rs ds p q n' k' := by
  obtain ⟨T, X, hX, h1, h2, h3, h4, h5, h6, vp, ps, X', hX', h7⟩ := h
  exact ⟨T, X, Nat.le_trans hX hn, h1, h2, h3, h4, h5, h6, vp, ps, X', Nat.le_trans hX' hk, h7⟩
theorem GMg.base {w0 wr : World} {base m B : Nat} {V : Value × Value × Value} {v : Nat} {vr vd : Value} {rs ds : List Sp} {p q : Hs} {n k : Nat} (h : GMg w0 wr base m B V v vr vd rs ds p q n k) : base ≤ wr.heap.size := by
  obtain ⟨T, X, hX, h1, h2, h3, h4, h5, h6, _⟩ := h
  exact h5
/-- a step of the script in its block -/
def OpAt (w : World) (g : Nat) (kd : Int) (rt vt vl : Nat) (nn : Int) : Prop := w.heap[g]? = some (.cells #[.int .i64 kd, .int .u64 (rt : Int), .int .u64 (vt : Int), .int .u64 (vl : Int), .int .i64 nn] 36 (0, 0))
theorem OpAt.cells {w : World} {g : Nat} {kd : Int} {rt vt vl : Nat} {nn : Int} (h : OpAt w g kd rt vt vl nn) : w.cell? ⟨g, 0, none⟩ = some (.int .i64 kd) ∧ w.cell? ⟨g, 1, none⟩ = some (.int .u64 (rt : Int)) ∧ w.cell? ⟨g, 2, none⟩ = some (.int .u64 (vt : Int)) ∧ w.cell? ⟨g, 3, none⟩ = some (.int .u64 (vl : Int)) ∧ w.cell? ⟨g, 4, none⟩ = some (.int .i64 nn) := by
  refine ⟨?_, ?_, ?_, ?_, ?_⟩ <;> rw [cell_of_row w g _ _ _ _ h] <;> rfl
theorem OpAt.bx {w w' : World} {base g : Nat} {kd : Int} {rt vt vl : Nat} {nn : Int} (h : OpAt w g kd rt vt vl nn) (hb : Bx base w w') (hg : base ≤ g) : OpAt w' g kd rt vt vl nn := hb.2 g _ _ _ hg h (by unfold NoM; decide)
theorem OpAt.below {w w' : World} {g : Nat} {kd : Int} {rt vt vl : Nat} {nn : Int} (h : OpAt w g kd rt vt vl nn) (hb : Below w.heap.size w w') : OpAt w' g kd rt vt vl nn := (hb.block g (Array.getElem?_eq_some_iff.1 (show w.heap[g]? = _ from h)).1).trans h
theorem OpAt.new (w : World) (kd : Int) (rt vt vl : Nat) (nn : Int) : OpAt (w.alloc (Obj.cells #[.int .i64 kd, .int .u64 (rt : Int), .int .u64 (vt : Int), .int .u64 (vl : Int), .int .i64 nn] 36)) w.heap.size kd rt vt vl nn := heap_alloc_new w _
theorem BoxF.bx {w w' : World} {base g : Nat} {x y : Int} (h : BoxF w g x y) (hb : Bx base w w') (hg : base ≤ g) : BoxF w' g x y := hb.2 g _ _ _ hg h (by unfold NoM; decide)
/-- what a step leaves -/
def StepP (w0 : World) (base m B : Nat) (V : Value × Value × Value) (v : Nat) (vr vd : Value) (rs ds : List Sp) (p : Hs) (n k : Nat) (e : Ending) (w' : World) : Prop :=
  e = .returned (.bool true) ∧ ∃ p', Hid (GMg w0 w' base m B V v vr vd rs ds p' p' (n + 4000) (k + 1)) ∧ p'.2.1 ≤ p.2.1 + 8 ∧ p'.2.2 ≤ p.2.2 + 8
set_option maxRecDepth 100000 in
set_option maxHeartbeats 4000000 in
theorem step_tr {w0 wr : World} {base m B : Nat} {V : Value × Value × Value} {v : Nat} {vr vd : Value} {rs ds : List Sp} {p : Hs} {n k : Nat} {nn : Int} {rt vt vl : Nat} (h : GMg w0 wr base m B V v vr vd rs ds p p n k) (hr : U64.SV w0 vr rs) (hd : U64.SV w0 vd ds) (hl : rs.length + ds.length ≤ 64) (ht : rt ≤ 18446744073709551615) (hv : vt ≤ 18446744073709551615) (hn : n ≤ 4000000000000000000) (hk : k ≤ 4000000000000000000) :
    Calls Tryz.prog 8 #[.iface 28 (.pointer (some ⟨m, 0, none⟩)), .pointer (some ⟨v, 0, none⟩), .agg #[.int .i64 1, .int .u64 (rt : Int), .int .u64 (vt : Int), .int .u64 (vl : Int), .int .i64 nn]] wr (StepP w0 base m B V v vr vd rs ds p n k) := by
  have hbs := h.base
  obtain ⟨W1, hW1⟩ : ∃ W1, wr.alloc (Obj.cells #[.int .i64 1, .int .u64 (rt : Int), .int .u64 (vt : Int), .int .u64 (vl : Int), .int .i64 nn] 36) = W1 := ⟨_, rfl⟩
  have hb1 : Below wr.heap.size wr W1 := hW1 ▸ (Below.refl _ _).alloc (Nat.le_refl _) _
  have HO1 : Hid (OpAt W1 wr.heap.size 1 rt vt vl nn) := hW1 ▸ OpAt.new wr 1 rt vt vl nn
  have HG1 : Hid (GMg w0 W1 base m B V v vr vd rs ds p p n k) := h.below hb1
  have HC1 : Hid (∀ W, GMg w0 W base m B V v vr vd rs ds p p n k → Calls Tryz.prog 20 #[.iface 28 (.pointer (some ⟨m, 0, none⟩)), .int .u64 (rt : Int), .int .u64 (vt : Int), .int .i64 nn] W fun e w' => e = .returned (.tuple #[.int .u64 ((adrF (rs ++ ds) p.1 rt vt nn).1 : Int), .agg #[.int .i64 (adrF (rs ++ ds) p.1 rt vt nn).2, .int .u64 (whyAt (adrF (rs ++ ds) p.1 rt vt nn).2 vt : Int)]]) ∧ Hid (GMg w0 w' base m B V v vr vd rs ds p p (n + 1) k) ∧ Hid (Bx base W w')) := fun W hW => gm_tr1 hW ht hv (by omega)
  have HC2 : Hid (∀ W, GMg w0 W base m B V v vr vd rs ds p p (n + 1) k → Calls Tryz.prog 21 #[.pointer (some ⟨v, 0, none⟩), .int .u64 (rt : Int), .int .u64 (vt : Int), .int .i64 nn] W fun e w' => e = .returned (.tuple #[.int .u64 ((adrF (rs ++ ds) p.1 rt vt nn).1 : Int), .agg #[.int .i64 (adrF (rs ++ ds) p.1 rt vt nn).2, .int .u64 (whyAt (adrF (rs ++ ds) p.1 rt vt nn).2 vt : Int)]]) ∧ Hid (GMg w0 w' base m B V v vr vd rs ds p p (n + 1) k) ∧ Hid (Bx base W w')) := fun W hW => gm_tr2 hW hr hd hl ht hv (by omega)
  have HSm : Hid (∀ a b W, Calls Tryz.prog 22 #[.agg #[.int .i64 a, .int .u64 b], .agg #[.int .i64 a, .int .u64 b]] W fun e w' => e = .returned (.bool true) ∧ Below W.heap.size W w') := same_one
  obtain ⟨num, hnum⟩ : ∃ num : Nat, num = (adrF (rs ++ ds) p.1 rt vt nn).1 := ⟨_, rfl⟩
  obtain ⟨why, hwhy⟩ : ∃ why : Int, why = (adrF (rs ++ ds) p.1 rt vt nn).2 := ⟨_, rfl⟩
  obtain ⟨xx, hxx⟩ : ∃ xx : Int, xx = (whyAt (adrF (rs ++ ds) p.1 rt vt nn).2 vt : Int) := ⟨_, rfl⟩
  rw [← hnum, ← hxx, ← hwhy] at HC1 HC2
  clear hnum hwhy hxx
  obtain ⟨PP, hPP⟩ : ∃ PP : Hs, PP = p := ⟨_, rfl⟩
  have HLe : Hid (PP.2.1 ≤ p.2.1 + 8 ∧ PP.2.2 ≤ p.2.2 + 8) := by
    show _ ∧ _
    rw [hPP]
    exact ⟨by omega, by omega⟩
  rw [← hPP] at HC1 HC2
  rw [← hPP] at HG1
  clear hPP
  clear h hr hd hb1
  obtain ⟨o0, o1, o2, o3, o4⟩ := HO1.out.cells
  go_enter Tryz.func8, Tryz.ntmps8
  go_wp2_with fail
  clear hW1
  refine (HC1.out W1 HG1.out).mono ?_
  rintro e w2 ⟨rfl, HG2, HX2⟩
  have HO2 := Lib.hid (HO1.out.bx HX2.out hbs)
  have hl2 : wr.heap.size < w2.heap.size := (Array.getElem?_eq_some_iff.1 (show w2.heap[wr.heap.size]? = _ from HO2.out)).1
  clear HC1 HO1 HG1 HX2 o0 o1 o2 o3 o4
  go_upto_region 4 with fail
  obtain ⟨W3, hW3⟩ : ∃ W3, w2.alloc (Obj.cells #[.int .i64 why, .int .u64 xx] 57) = W3 := ⟨_, rfl⟩
  have hb3 : Below w2.heap.size w2 W3 := hW3 ▸ (Below.refl _ _).alloc (Nat.le_refl _) _
  have HF3 : Hid (BoxF W3 w2.heap.size why xx) := hW3 ▸ BoxF.new w2 why xx
  have HO3 := Lib.hid (HO2.out.below hb3)
  have HG3 := Lib.hid (HG2.out.below hb3)
  rw [hW3]
  clear hW3 HG2 HO2 hb3
  obtain ⟨o0, o1, o2, o3, o4⟩ := HO3.out.cells
  go_wp2_with fail
  refine (HC2.out W3 HG3.out).mono ?_
  rintro e w4 ⟨rfl, HG4, HX4⟩
  have HF4 : Hid (BoxF w4 w2.heap.size why xx) := HF3.out.bx HX4.out (by omega)
  clear HC2 HO3 HG3 HX4 HF3 o0 o1 o2 o3 o4
  go_upto_region 5 with fail
  obtain ⟨W5, hW5⟩ : ∃ W5, w4.alloc (Obj.cells #[.int .i64 why, .int .u64 xx] 41) = W5 := ⟨_, rfl⟩
  have hb5 : Below w4.heap.size w4 W5 := hW5 ▸ (Below.refl _ _).alloc (Nat.le_refl _) _
  have HF5 : Hid (BoxF W5 w2.heap.size why xx) := HF4.out.below hb5
  have HH5 : Hid (BoxG W5 w4.heap.size why xx) := hW5 ▸ BoxG.new w4 why xx
  have HG5 := Lib.hid (HG4.out.below hb5)
  rw [hW5]
  clear hW5 HG4 HF4 hb5
  obtain ⟨f0, f1, _, _⟩ := HF5.out.cells
  obtain ⟨g0, g1, _, _⟩ := HH5.out.cells
  go_wp2_with fail
  refine (HSm.out _ _ W5).mono ?_
  rintro e w6 ⟨rfl, hb6⟩
  have HG6 := Lib.hid (HG5.out.below hb6)
  clear HSm HG5 hb6 f0 f1 g0 g1
  go_wp2_with fail
  go_ret
  exact ⟨rfl, _, Lib.hid (HG6.out.mono (by omega) (by omega)), HLe.out⟩
set_option maxRecDepth 100000 in
set_option maxHeartbeats 4000000 in
theorem step_ld {w0 wr : World} {base m B : Nat} {V : Value × Value × Value} {v : Nat} {vr vd : Value} {rs ds : List Sp} {p : Hs} {n k : Nat} {nn : Int} {rt vt vl : Nat} (h : GMg w0 wr base m B V v vr vd rs ds p p n k) (hr : U64.SV w0 vr rs) (hd : U64.SV w0 vd ds) (hl : rs.length + ds.length ≤ 64) (ht : rt ≤ 18446744073709551615) (hn : n ≤ 4000000000000000000) (hk : k ≤ 4000000000000000000) (hL : p.2.1 ≤ 4000000000000000000) :
    Calls Tryz.prog 8 #[.iface 28 (.pointer (some ⟨m, 0, none⟩)), .pointer (some ⟨v, 0, none⟩), .agg #[.int .i64 2, .int .u64 (rt : Int), .int .u64 (vt : Int), .int .u64 (vl : Int), .int .i64 nn]] wr (StepP w0 base m B V v vr vd rs ds p n k) := by
  have hbs := h.base
  obtain ⟨W1, hW1⟩ : ∃ W1, wr.alloc (Obj.cells #[.int .i64 2, .int .u64 (rt : Int), .int .u64 (vt : Int), .int .u64 (vl : Int), .int .i64 nn] 36) = W1 := ⟨_, rfl⟩
  have hb1 : Below wr.heap.size wr W1 := hW1 ▸ (Below.refl _ _).alloc (Nat.le_refl _) _
  have HO1 : Hid (OpAt W1 wr.heap.size 2 rt vt vl nn) := hW1 ▸ OpAt.new wr 2 rt vt vl nn
  have HG1 : Hid (GMg w0 W1 base m B V v vr vd rs ds p p n k) := h.below hb1
  have HC1 : Hid (∀ W, GMg w0 W base m B V v vr vd rs ds p p n k → Calls Tryz.prog 14 #[.iface 28 (.pointer (some ⟨m, 0, none⟩)), .int .u64 (rt : Int), .int .u64 (vt : Int), .int .i64 nn] W fun e w' => e = .returned (.tuple #[.int .u64 ((ldA (rs ++ ds) p.1 rt vt 1 nn).1 : Int), .agg #[.int .i64 (ldA (rs ++ ds) p.1 rt vt 1 nn).2.1, .int .u64 ((ldA (rs ++ ds) p.1 rt vt 1 nn).2.2 : Int)]]) ∧ Hid (GMg w0 w' base m B V v vr vd rs ds (p.1, p.2.1 + ldC (rs ++ ds) p.1 rt vt 1 nn, p.2.2) p (n + 32) k) ∧ Hid (Bx base W w')) := fun W hW => gm_ld1 hW ht (by omega) (by omega)
  have HC2 : Hid (∀ W, GMg w0 W base m B V v vr vd rs ds (p.1, p.2.1 + ldC (rs ++ ds) p.1 rt vt 1 nn, p.2.2) p (n + 32) k → Calls Tryz.prog 23 #[.pointer (some ⟨v, 0, none⟩), .int .u64 (rt : Int), .int .u64 (vt : Int), .int .i64 nn, .int .i64 1] W fun e w' => e = .returned (.tuple #[.int .u64 ((ldA (rs ++ ds) p.1 rt vt 1 nn).1 : Int), .agg #[.int .i64 (ldA (rs ++ ds) p.1 rt vt 1 nn).2.1, .int .u64 ((ldA (rs ++ ds) p.1 rt vt 1 nn).2.2 : Int)]]) ∧ Hid (GMg w0 w' base m B V v vr vd rs ds (p.1, p.2.1 + ldC (rs ++ ds) p.1 rt vt 1 nn, p.2.2) (p.1, p.2.1 + ldC (rs ++ ds) p.1 rt vt 1 nn, p.2.2) (n + 32) k) ∧ Hid (Bx base W w')) := fun W hW => gm_ld2 hW hr hd hl ht (by omega) (by omega)
  have HSm : Hid (∀ a b W, Calls Tryz.prog 22 #[.agg #[.int .i64 a, .int .u64 b], .agg #[.int .i64 a, .int .u64 b]] W fun e w' => e = .returned (.bool true) ∧ Below W.heap.size W w') := same_one
  obtain ⟨num, hnum⟩ : ∃ num : Nat, num = (ldA (rs ++ ds) p.1 rt vt 1 nn).1 := ⟨_, rfl⟩
  obtain ⟨why, hwhy⟩ : ∃ why : Int, why = (ldA (rs ++ ds) p.1 rt vt 1 nn).2.1 := ⟨_, rfl⟩
  obtain ⟨xx, hxx⟩ : ∃ xx : Int, xx = ((ldA (rs ++ ds) p.1 rt vt 1 nn).2.2 : Int) := ⟨_, rfl⟩
  rw [← hnum, ← hxx, ← hwhy] at HC1 HC2
  clear hnum hwhy hxx
  obtain ⟨PP, hPP⟩ : ∃ PP : Hs, PP = (p.1, p.2.1 + ldC (rs ++ ds) p.1 rt vt 1 nn, p.2.2) := ⟨_, rfl⟩
  have HLe : Hid (PP.2.1 ≤ p.2.1 + 8 ∧ PP.2.2 ≤ p.2.2 + 8) := by
    show _ ∧ _
    rw [hPP]
    exact ⟨Nat.add_le_add_left (ldC_le _ _ _ _ _ _) _, Nat.le_add_right _ _⟩
  rw [← hPP] at HC1 HC2
  clear hPP
  clear h hr hd hb1
  obtain ⟨o0, o1, o2, o3, o4⟩ := HO1.out.cells
  go_enter Tryz.func8, Tryz.ntmps8
  go_wp2_with fail
  clear hW1
  refine (HC1.out W1 HG1.out).mono ?_
  rintro e w2 ⟨rfl, HG2, HX2⟩
  have HO2 := Lib.hid (HO1.out.bx HX2.out hbs)
  have hl2 : wr.heap.size < w2.heap.size := (Array.getElem?_eq_some_iff.1 (show w2.heap[wr.heap.size]? = _ from HO2.out)).1
  clear HC1 HO1 HG1 HX2 o0 o1 o2 o3 o4
  go_upto_region 8 with fail
  obtain ⟨W3, hW3⟩ : ∃ W3, w2.alloc (Obj.cells #[.int .i64 why, .int .u64 xx] 57) = W3 := ⟨_, rfl⟩
  have hb3 : Below w2.heap.size w2 W3 := hW3 ▸ (Below.refl _ _).alloc (Nat.le_refl _) _
  have HF3 : Hid (BoxF W3 w2.heap.size why xx) := hW3 ▸ BoxF.new w2 why xx
  have HO3 := Lib.hid (HO2.out.below hb3)
  have HG3 := Lib.hid (HG2.out.below hb3)
  rw [hW3]
  clear hW3 HG2 HO2 hb3
  obtain ⟨o0, o1, o2, o3, o4⟩ := HO3.out.cells
  go_wp2_with fail
  refine (HC2.out W3 HG3.out).mono ?_
  rintro e w4 ⟨rfl, HG4, HX4⟩
  have HF4 : Hid (BoxF w4 w2.heap.size why xx) := HF3.out.bx HX4.out (by omega)
  clear HC2 HO3 HG3 HX4 HF3 o0 o1 o2 o3 o4
  go_upto_region 9 with fail
  obtain ⟨W5, hW5⟩ : ∃ W5, w4.alloc (Obj.cells #[.int .i64 why, .int .u64 xx] 41) = W5 := ⟨_, rfl⟩
  have hb5 : Below w4.heap.size w4 W5 := hW5 ▸ (Below.refl _ _).alloc (Nat.le_refl _) _
  have HF5 : Hid (BoxF W5 w2.heap.size why xx) := HF4.out.below hb5
  have HH5 : Hid (BoxG W5 w4.heap.size why xx) := hW5 ▸ BoxG.new w4 why xx
  have HG5 := Lib.hid (HG4.out.below hb5)
  rw [hW5]
  clear hW5 HG4 HF4 hb5
  obtain ⟨f0, f1, _, _⟩ := HF5.out.cells
  obtain ⟨g0, g1, _, _⟩ := HH5.out.cells
  go_wp2_with fail
  refine (HSm.out _ _ W5).mono ?_
  rintro e w6 ⟨rfl, hb6⟩
  have HG6 := Lib.hid (HG5.out.below hb6)
  clear HSm HG5 hb6 f0 f1 g0 g1
  go_wp2_with fail
  go_ret
  exact ⟨rfl, _, Lib.hid (HG6.out.mono (by omega) (by omega)), HLe.out⟩
set_option maxRecDepth 100000 in
set_option maxHeartbeats 4000000 in
theorem step_ft {w0 wr : World} {base m B : Nat} {V : Value × Value × Value} {v : Nat} {vr vd : Value} {rs ds : List Sp} {p : Hs} {n k : Nat} {nn : Int} {rt vt vl : Nat} (h : GMg w0 wr base m B V v vr vd rs ds p p n k) (hr : U64.SV w0 vr rs) (hd : U64.SV w0 vd ds) (hl : rs.length + ds.length ≤ 64) (ht : rt ≤ 18446744073709551615) (hn : n ≤ 4000000000000000000) (hk : k ≤ 4000000000000000000) (hL : p.2.1 ≤ 4000000000000000000) :
    Calls Tryz.prog 8 #[.iface 28 (.pointer (some ⟨m, 0, none⟩)), .pointer (some ⟨v, 0, none⟩), .agg #[.int .i64 4, .int .u64 (rt : Int), .int .u64 (vt : Int), .int .u64 (vl : Int), .int .i64 nn]] wr (StepP w0 base m B V v vr vd rs ds p n k) := by
  have hbs := h.base
  obtain ⟨W1, hW1⟩ : ∃ W1, wr.alloc (Obj.cells #[.int .i64 4, .int .u64 (rt : Int), .int .u64 (vt : Int), .int .u64 (vl : Int), .int .i64 nn] 36) = W1 := ⟨_, rfl⟩
  have hb1 : Below wr.heap.size wr W1 := hW1 ▸ (Below.refl _ _).alloc (Nat.le_refl _) _
  have HO1 : Hid (OpAt W1 wr.heap.size 4 rt vt vl nn) := hW1 ▸ OpAt.new wr 4 rt vt vl nn
  have HG1 : Hid (GMg w0 W1 base m B V v vr vd rs ds p p n k) := h.below hb1
  have HC1 : Hid (∀ W, GMg w0 W base m B V v vr vd rs ds p p n k → Calls Tryz.prog 15 #[.iface 28 (.pointer (some ⟨m, 0, none⟩)), .int .u64 (rt : Int), .int .u64 (vt : Int), .int .i64 nn] W fun e w' => e = .returned (.tuple #[.int .u64 ((ldA (rs ++ ds) p.1 rt vt 3 nn).1 : Int), .agg #[.int .i64 (ldA (rs ++ ds) p.1 rt vt 3 nn).2.1, .int .u64 ((ldA (rs ++ ds) p.1 rt vt 3 nn).2.2 : Int)]]) ∧ Hid (GMg w0 w' base m B V v vr vd rs ds (p.1, p.2.1 + ldC (rs ++ ds) p.1 rt vt 3 nn, p.2.2) p (n + 32) k) ∧ Hid (Bx base W w')) := fun W hW => gm_ft1 hW ht (by omega) (by omega)
  have HC2 : Hid (∀ W, GMg w0 W base m B V v vr vd rs ds (p.1, p.2.1 + ldC (rs ++ ds) p.1 rt vt 3 nn, p.2.2) p (n + 32) k → Calls Tryz.prog 23 #[.pointer (some ⟨v, 0, none⟩), .int .u64 (rt : Int), .int .u64 (vt : Int), .int .i64 nn, .int .i64 3] W fun e w' => e = .returned (.tuple #[.int .u64 ((ldA (rs ++ ds) p.1 rt vt 3 nn).1 : Int), .agg #[.int .i64 (ldA (rs ++ ds) p.1 rt vt 3 nn).2.1, .int .u64 ((ldA (rs ++ ds) p.1 rt vt 3 nn).2.2 : Int)]]) ∧ Hid (GMg w0 w' base m B V v vr vd rs ds (p.1, p.2.1 + ldC (rs ++ ds) p.1 rt vt 3 nn, p.2.2) (p.1, p.2.1 + ldC (rs ++ ds) p.1 rt vt 3 nn, p.2.2) (n + 32) k) ∧ Hid (Bx base W w')) := fun W hW => gm_ld2 hW hr hd hl ht (by omega) (by omega)
  have HSm : Hid (∀ a b W, Calls Tryz.prog 22 #[.agg #[.int .i64 a, .int .u64 b], .agg #[.int .i64 a, .int .u64 b]] W fun e w' => e = .returned (.bool true) ∧ Below W.heap.size W w') := same_one
  obtain ⟨num, hnum⟩ : ∃ num : Nat, num = (ldA (rs ++ ds) p.1 rt vt 3 nn).1 := ⟨_, rfl⟩
  obtain ⟨why, hwhy⟩ : ∃ why : Int, why = (ldA (rs ++ ds) p.1 rt vt 3 nn).2.1 := ⟨_, rfl⟩
  obtain ⟨xx, hxx⟩ : ∃ xx : Int, xx = ((ldA (rs ++ ds) p.1 rt vt 3 nn).2.2 : Int) := ⟨_, rfl⟩
  rw [← hnum, ← hxx, ← hwhy] at HC1 HC2
  clear hnum hwhy hxx
  obtain ⟨PP, hPP⟩ : ∃ PP : Hs, PP = (p.1, p.2.1 + ldC (rs ++ ds) p.1 rt vt 3 nn, p.2.2) := ⟨_, rfl⟩
  have HLe : Hid (PP.2.1 ≤ p.2.1 + 8 ∧ PP.2.2 ≤ p.2.2 + 8) := by
    show _ ∧ _
    rw [hPP]
    exact ⟨Nat.add_le_add_left (ldC_le _ _ _ _ _ _) _, Nat.le_add_right _ _⟩
  rw [← hPP] at HC1 HC2
  clear hPP
  clear h hr hd hb1
  obtain ⟨o0, o1, o2, o3, o4⟩ := HO1.out.cells
  go_enter Tryz.func8, Tryz.ntmps8
  go_wp2_with fail
  clear hW1
  refine (HC1.out W1 HG1.out).mono ?_
  rintro e w2 ⟨rfl, HG2, HX2⟩
  have HO2 := Lib.hid (HO1.out.bx HX2.out hbs)
  have hl2 : wr.heap.size < w2.heap.size := (Array.getElem?_eq_some_iff.1 (show w2.heap[wr.heap.size]? = _ from HO2.out)).1
  clear HC1 HO1 HG1 HX2 o0 o1 o2 o3 o4
  go_upto_region 12 with fail
  obtain ⟨W3, hW3⟩ : ∃ W3, w2.alloc (Obj.cells #[.int .i64 why, .int .u64 xx] 57) = W3 := ⟨_, rfl⟩
  have hb3 : Below w2.heap.size w2 W3 := hW3 ▸ (Below.refl _ _).alloc (Nat.le_refl _) _
  have HF3 : Hid (BoxF W3 w2.heap.size why xx) := hW3 ▸ BoxF.new w2 why xx
  have HO3 := Lib.hid (HO2.out.below hb3)
  have HG3 := Lib.hid (HG2.out.below hb3)
  rw [hW3]
  clear hW3 HG2 HO2 hb3
  obtain ⟨o0, o1, o2, o3, o4⟩ := HO3.out.cells
  go_wp2_with fail
  refine (HC2.out W3 HG3.out).mono ?_
  rintro e w4 ⟨rfl, HG4, HX4⟩
  have HF4 : Hid (BoxF w4 w2.heap.size why xx) := HF3.out.bx HX4.out (by omega)
  clear HC2 HO3 HG3 HX4 HF3 o0 o1 o2 o3 o4
  go_upto_region 13 with fail
  obtain ⟨W5, hW5⟩ : ∃ W5, w4.alloc (Obj.cells #[.int .i64 why, .int .u64 xx] 41) = W5 := ⟨_, rfl⟩
  have hb5 : Below w4.heap.size w4 W5 := hW5 ▸ (Below.refl _ _).alloc (Nat.le_refl _) _
  have HF5 : Hid (BoxF W5 w2.heap.size why xx) := HF4.out.below hb5
  have HH5 : Hid (BoxG W5 w4.heap.size why xx) := hW5 ▸ BoxG.new w4 why xx
  have HG5 := Lib.hid (HG4.out.below hb5)
  rw [hW5]
  clear hW5 HG4 HF4 hb5
  obtain ⟨f0, f1, _, _⟩ := HF5.out.cells
  obtain ⟨g0, g1, _, _⟩ := HH5.out.cells
  go_wp2_with fail
  refine (HSm.out _ _ W5).mono ?_
  rintro e w6 ⟨rfl, hb6⟩
  have HG6 := Lib.hid (HG5.out.below hb6)
  clear HSm HG5 hb6 f0 f1 g0 g1
  go_wp2_with fail
  go_ret
  exact ⟨rfl, _, Lib.hid (HG6.out.mono (by omega) (by omega)), HLe.out⟩
end Go.Proofs.YtdkhhofgfbnmkaaGreat
/- WalkPlays: Leaves held against what the document's own Leaves tells: left at any place. Plain mathematics. Own work. -/
namespace Go.Proofs.YtdkhhofgfbnmkaaGreat
open Go.RowKit Go.Maps Go.Proofs.YtdkhhofgfbnmkaaGreat.Sp Wk Lv
/-- what is told at a time: where it begins, where it lies, how many pages, big, write, exec; why not -/
abbrev T7 := Int × Int × Int × Bool × Bool × Bool × Int
def td (x : Slt) : T7 := ((x.1 : Int), (x.2.2.1.1 : Int), (pgs x.2.1 : Int), x.2.2.1.2.2.1, x.2.2.1.2.2.2.1, x.2.2.1.2.2.2.2, x.2.2.2)
/-- how many looks were off the bus, how many were told, 0: it goes on; 1: it was left; 2: something else was told -/
abbrev SP := Nat × Nat × Nat
def lkP (f : Nat → Nat → Ent × Int) (g : Nat → Bool) (s : SP) (fr i lev : Nat) : (Ent × Int) × SP := (f (fr + 8 * i) lev, (s.1 + (if g (fr + 8 * i) then 0 else 1), s.2))
/-- is it what is wanted next? -/
def okP (want : List T7) (i : Nat) (x : Slt) : Prop := want[i]? = some (td x)
open Classical in
noncomputable def ydP (want : List T7) (h : Nat) (s : SP) (x : Slt) : SP := if okP want s.2.1 x then (s.1, s.2.1 + 1, if h < s.2.1 + 1 then 1 else 0) else (s.1, s.2.1, 2)
open Classical in
noncomputable def ctP (want : List T7) (h : Nat) (s : SP) (x : Slt) : Bool := decide (okP want s.2.1 x ∧ ¬ h < s.2.1 + 1)
open Classical in
theorem ctP_no {want : List T7} {h : Nat} {s : SP} {x : Slt} (hh : h < s.2.1 + 1) : ctP want h s x = false := decide_eq_false (fun e => e.2 hh)
open Classical in
theorem ctP_bad {want : List T7} {h : Nat} {s : SP} {x : Slt} (ho : ¬ okP want s.2.1 x) : ctP want h s x = false := decide_eq_false (fun e => ho e.1)
open Classical in
theorem ctP_yes {want : List T7} {h : Nat} {s : SP} {x : Slt} (ho : okP want s.2.1 x) (hh : ¬ h < s.2.1 + 1) : ctP want h s x = true := decide_eq_true ⟨ho, hh⟩
/-- the two machines beside one another -/
def RelP (h : Nat) (t : St SP) (u : St (List Slt)) : Prop :=
  (t.s.2.2 = 0 ∧ t.s.2.1 = u.s.length ∧ t.left = u.left ∧ t.go = u.go) ∨ (t.s.2.2 = 1 ∧ t.go = false ∧ h < t.s.2.1 ∧ t.s.2.1 ≤ u.s.length)
section
variable {f : Nat → Nat → Ent × Int} {g : Nat → Bool} {want : List Slt} {h : Nat}
theorem visit_pre (u : St (List Slt)) (x : Slt) : u.s <+: (visitS ydL ctL u x).s := by
  unfold visitS
  split
  · exact List.prefix_refl _
  · exact List.prefix_append _ _
theorem aft_pre {deep : Nat → Nat → Nat → St (List Slt) → St (List Slt)} (hd : ∀ a b c t, t.s <+: (deep a b c t).s) (u : St (List Slt)) (x : Slt) : u.s <+: (aft ydL ctL deep u x).s := by
  unfold aft
  split
  · exact (visit_pre u x).trans (hd _ _ _ _)
  · exact visit_pre u x
theorem step_pre {deep : Nat → Nat → Nat → St (List Slt) → St (List Slt)} (hd : ∀ a b c t, t.s <+: (deep a b c t).s) (fr virt lev i : Nat) (u : St (List Slt)) : u.s <+: (stepS (lkL f) ydL ctL deep fr virt lev i u).s := by
  by_cases h41 : (lkL f u.s fr i lev).1.2 = 41
  · rw [step_absent h41]
    exact List.prefix_refl _
  · rw [step_aft h41]
    exact aft_pre hd _ _
theorem tab_pre {deep : Nat → Nat → Nat → St (List Slt) → St (List Slt)} (hd : ∀ a b c t, t.s <+: (deep a b c t).s) (fr virt lev : Nat) (u : St (List Slt)) : ∀ i, u.s <+: (tabN (lkL f) ydL ctL deep fr virt lev i u).s
  | 0 => List.prefix_refl _
  | i + 1 => by
    refine (tab_pre hd fr virt lev u i).trans ?_
    rw [tabN]
    split
    · exact step_pre hd _ _ _ _ _
    · exact List.prefix_refl _
theorem want_at {L : List Slt} {x : Slt} (hp : L ++ [x] <+: want) : okP (want.map td) L.length x := by
  unfold okP
  obtain ⟨r, hr⟩ := hp
  rw [← hr]
  simp
theorem visit_rel {t : St SP} {u : St (List Slt)} (x : Slt) (hr : RelP h t u) (hg : t.go = true) (hp : (visitS ydL ctL u x).s <+: want) : RelP h (visitS (ydP (want.map td) h) (ctP (want.map td) h) t x) (visitS ydL ctL u x) := by
  rcases hr with ⟨h1, h2, h3, h4⟩ | ⟨_, h2, _⟩
  · unfold visitS at hp ⊢
    by_cases hx : x.2.2.1.2.1 = true
    · rw [if_pos hx] at hp ⊢
      rw [if_pos hx]
      exact .inl ⟨h1, h2, by show t.left - 1 = u.left - 1; rw [h3], by show decide _ = decide _; rw [h3]⟩
    · rw [if_neg hx] at hp ⊢
      rw [if_neg hx]
      have ho : okP (want.map td) t.s.2.1 x := by rw [h2]; exact want_at hp
      have hl : (ydL u.s x).length = u.s.length + 1 := by show (u.s ++ [x]).length = _; simp
      have hy : ydP (want.map td) h t.s x = (t.s.1, t.s.2.1 + 1, if h < t.s.2.1 + 1 then 1 else 0) := if_pos ho
      by_cases hh : h < t.s.2.1 + 1
      · rw [if_pos hh] at hy
        refine .inr ⟨by show (ydP _ _ _ _).2.2 = 1; rw [hy], ?_, by show h < (ydP _ _ _ _).2.1; rw [hy]; exact hh, by show (ydP _ _ _ _).2.1 ≤ (ydL u.s x).length; rw [hy, hl]; show t.s.2.1 + 1 ≤ _; omega⟩
        show (ctP _ _ _ _ && _) = false
        rw [show ctP (want.map td) h t.s x = false from ctP_no hh]
        rfl
      · rw [if_neg hh] at hy
        refine .inl ⟨by show (ydP _ _ _ _).2.2 = 0; rw [hy], by show (ydP _ _ _ _).2.1 = (ydL u.s x).length; rw [hy, hl]; show t.s.2.1 + 1 = _; omega, by show t.left - 1 = u.left - 1; rw [h3], ?_⟩
        show (ctP (want.map td) h t.s x && decide (1 < t.left)) = (ctL u.s x && decide (1 < u.left))
        rw [show ctP (want.map td) h t.s x = true from ctP_yes ho hh, h3]
        rfl
  · rw [hg] at h2
    cases h2
theorem RelP.later {t : St SP} {u u' : St (List Slt)} (hr : RelP h t u) (hg : t.go = false) (hs : u.s <+: u'.s) (hu : u.go = false → u' = u) : RelP h t u' := by
  rcases hr with ⟨h1, h2, h3, h4⟩ | ⟨h1, h2, h3, h4⟩
  · rw [hg] at h4
    rw [hu h4.symm]
    exact .inl ⟨h1, h2, h3, by rw [hg, h4]⟩
  · exact .inr ⟨h1, h2, h3, Nat.le_trans h4 hs.length_le⟩
theorem tab_rel {dP : Nat → Nat → Nat → St SP → St SP} {dL : Nat → Nat → Nat → St (List Slt) → St (List Slt)} (hpre : ∀ a b c t, t.s <+: (dL a b c t).s) (hst : ∀ a b c t, t.go = false → dL a b c t = t)
    (hd : ∀ a b c t u, RelP h t u → (dL a b c u).s <+: want → RelP h (dP a b c t) (dL a b c u)) (hsp : ∀ a b c t, t.go = false → dP a b c t = t) (fr virt lev : Nat) {t : St SP} {u : St (List Slt)} (hr : RelP h t u) :
    ∀ i, (tabN (lkL f) ydL ctL dL fr virt lev i u).s <+: want → RelP h (tabN (lkP f g) (ydP (want.map td) h) (ctP (want.map td) h) dP fr virt lev i t) (tabN (lkL f) ydL ctL dL fr virt lev i u)
  | 0, _ => hr
  | i + 1, hw => by
    have hpi : (tabN (lkL f) ydL ctL dL fr virt lev i u).s <+: (tabN (lkL f) ydL ctL dL fr virt lev (i + 1) u).s := by
      rw [tabN]
      split
      · exact step_pre hpre _ _ _ _ _
      · exact List.prefix_refl _
    have hi := tab_rel hpre hst hd hsp fr virt lev hr i (hpi.trans hw)
    rw [tabN] at hw hpi
    rw [tabN, tabN]
    generalize tabN (lkP f g) (ydP (want.map td) h) (ctP (want.map td) h) dP fr virt lev i t = T at hi ⊢
    generalize tabN (lkL f) ydL ctL dL fr virt lev i u = U at hi hw hpi ⊢
    cases hg : T.go with
    | false =>
      rw [if_neg (by decide)]
      exact hi.later hg hpi (fun hu => by rw [hu]; rfl)
    | true =>
      rw [if_pos rfl]
      have hug : U.go = true := by
        rcases hi with ⟨_, _, _, h4⟩ | ⟨_, h2, _⟩
        · rw [← h4]; exact hg
        · rw [hg] at h2; cases h2
      rw [hug, if_pos rfl] at hw
      rw [hug, if_pos rfl]
      by_cases h41 : (f (fr + 8 * i) lev).2 = 41
      · rw [step_absent (lk := lkP f g) h41, step_absent (lk := lkL f) h41]
        rcases hi with ⟨h1, h2, h3, h4⟩ | ⟨_, h2, _⟩
        · exact .inl ⟨h1, h2, h3, h4⟩
        · rw [hg] at h2; cases h2
      · rw [step_aft (lk := lkL f) h41] at hw
        rw [step_aft (lk := lkP f g) h41, step_aft (lk := lkL f) h41]
        have hi2 : RelP h { T with s := (lkP f g T.s fr i lev).2 } { U with s := (lkL f U.s fr i lev).2 } := by
          rcases hi with ⟨h1, h2, h3, h4⟩ | ⟨_, h2, _⟩
          · exact .inl ⟨h1, h2, h3, h4⟩
          · rw [hg] at h2; cases h2
        have hg2 : ({ T with s := (lkP f g T.s fr i lev).2 } : St SP).go = true := hg
        have hy : slotS virt lev i (lkP f g T.s fr i lev).1 = slotS virt lev i (lkL f U.s fr i lev).1 := rfl
        rw [hy]
        generalize ({ T with s := (lkP f g T.s fr i lev).2 } : St SP) = T2 at hi2 hg2 ⊢
        generalize ({ U with s := (lkL f U.s fr i lev).2 } : St (List Slt)) = U2 at hi2 hw ⊢
        generalize slotS virt lev i (lkL f U.s fr i lev).1 = y at hw ⊢
        unfold aft at hw ⊢
        have hv : (visitS ydL ctL U2 y).s <+: want := by
          split at hw
          · exact (hpre _ _ _ _).trans hw
          · exact hw
        have hr2 := visit_rel y hi2 hg2 hv
        by_cases ht : y.2.2.1.2.1 = true
        · cases hgv : (visitS ydL ctL U2 y).go with
          | true =>
            rw [hgv, if_pos (by rw [ht]; rfl)] at hw
            rcases hr2 with ⟨h1, h2, h3, h4⟩ | ⟨h1, h2, h3, h4⟩
            · rw [show (visitS (ydP (want.map td) h) (ctP (want.map td) h) T2 y).go = true from h4.trans hgv, if_pos (by rw [ht]; rfl), if_pos (by rw [ht]; rfl)]
              exact hd _ _ _ _ _ (.inl ⟨h1, h2, h3, h4⟩) hw
            · rw [h2, if_neg (by simp), if_pos (by rw [ht]; rfl)]
              exact RelP.later (.inr ⟨h1, h2, h3, h4⟩) h2 (hpre _ _ _ _) (fun hu => by rw [hgv] at hu; cases hu)
          | false =>
            rw [if_neg (by simp : ¬ ((false && y.2.2.1.2.1) = true))]
            rcases hr2 with ⟨h1, h2, h3, h4⟩ | ⟨h1, h2, h3, h4⟩
            · rw [show (visitS (ydP (want.map td) h) (ctP (want.map td) h) T2 y).go = false from h4.trans hgv, if_neg (by simp)]
              exact .inl ⟨h1, h2, h3, h4⟩
            · rw [h2, if_neg (by simp)]
              exact .inr ⟨h1, h2, h3, h4⟩
        · have htf : y.2.2.1.2.1 = false := by simpa using ht
          rw [htf, if_neg (by simp), if_neg (by simp)]
          exact hr2
theorem all_rel (root : Nat) {t : St SP} {u : St (List Slt)} (hr : RelP h t u) (hw : (allS (lkL f) ydL ctL root u).s <+: want) : RelP h (allS (lkP f g) (ydP (want.map td) h) (ctP (want.map td) h) root t) (allS (lkL f) ydL ctL root u) := by
  have stop : ∀ {σ : Type} (lk : σ → Nat → Nat → Nat → (Ent × Int) × σ) (yd : σ → Slt → σ) (ct : σ → Slt → Bool) (d : Nat → Nat → Nat → St σ → St σ) (a b c : Nat) (t : St σ), t.go = false → tabN lk yd ct d a b c 512 t = t := fun lk yd ct d a b c t hg => by
    have := tabN_end (lk := lk) (yd := yd) (ct := ct) (deep := d) (fr := a) (virt := b) (lev := c) (i := 0) (t := t) hg (by omega)
    exact this
  refine tab_rel (fun a b c t => tab_pre (fun a b c t => tab_pre (fun _ _ _ _ => List.prefix_refl _) a b c t 512) a b c t 512) (fun a b c t hg => stop _ _ _ _ a b c t hg) (fun a b c t u hr hw => ?_) (fun a b c t hg => stop _ _ _ _ a b c t hg) root 0 0 hr 512 hw
  refine tab_rel (fun a b c t => tab_pre (fun _ _ _ _ => List.prefix_refl _) a b c t 512) (fun a b c t hg => stop _ _ _ _ a b c t hg) (fun a b c t u hr hw => ?_) (fun a b c t hg => stop _ _ _ _ a b c t hg) a b c hr 512 hw
  exact tab_rel (fun _ _ _ _ => List.prefix_refl _) (fun _ _ _ _ _ => rfl) (fun _ _ _ _ _ hr _ => hr) (fun _ _ _ _ _ => rfl) a b c hr 512 hw
def FewS (C : Nat) (t : St SP) : Prop := (t.go = true → 1 ≤ t.left) ∧ t.s.1 + t.left ≤ C
theorem ydP_fst (w : List T7) (s : SP) (x : Slt) : (ydP w h s x).1 = s.1 := by
  unfold ydP
  split <;> rfl
theorem fews_visit {w : List T7} {C : Nat} {t : St SP} (hl : 1 ≤ t.left) (hc : t.s.1 + t.left ≤ C + 1) (y : Slt) : FewS C (visitS (ydP w h) (ctP w h) t y) := by
  unfold visitS
  split
  · exact ⟨fun e => by have e' := of_decide_eq_true e; show 1 ≤ t.left - 1; omega, by show t.s.1 + (t.left - 1) ≤ C; omega⟩
  · refine ⟨fun e => ?_, by show (ydP w h t.s y).1 + (t.left - 1) ≤ C; rw [ydP_fst]; omega⟩
    have e' : (ctP w h t.s y && decide (1 < t.left)) = true := e
    rw [Bool.and_eq_true] at e'
    have := of_decide_eq_true e'.2
    show 1 ≤ t.left - 1
    omega
theorem fews_tab {w : List T7} {C : Nat} (hg : ∀ a l, g a = false → (f a l).2 ≠ 41) {dP : Nat → Nat → Nat → St SP → St SP} (hd : ∀ a b c t, FewS C t → FewS C (dP a b c t)) (fr virt lev : Nat) {t : St SP} (ht : FewS C t) : ∀ i, FewS C (tabN (lkP f g) (ydP w h) (ctP w h) dP fr virt lev i t)
  | 0 => ht
  | i + 1 => by
    have hi := fews_tab (w := w) hg hd fr virt lev ht i
    rw [tabN]
    generalize tabN (lkP f g) (ydP w h) (ctP w h) dP fr virt lev i t = U at hi ⊢
    split
    · rename_i hgo
      have h1 := hi.1 hgo
      have h2 := hi.2
      by_cases h41 : (f (fr + 8 * i) lev).2 = 41
      · rw [step_absent (lk := lkP f g) h41]
        refine ⟨fun _ => h1, ?_⟩
        have hb : g (fr + 8 * i) = true := by
          cases e : g (fr + 8 * i) with
          | true => rfl
          | false => exact absurd h41 (hg _ _ e)
        show U.s.1 + (if g (fr + 8 * i) then 0 else 1) + U.left ≤ C
        rw [hb]
        exact h2
      · rw [step_aft (lk := lkP f g) h41]
        have hv : ∀ y, FewS C (visitS (ydP w h) (ctP w h) { U with s := (lkP f g U.s fr i lev).2 } y) := fun y => fews_visit (C := C) (t := { U with s := (lkP f g U.s fr i lev).2 }) h1 (by
          show U.s.1 + (if g (fr + 8 * i) then 0 else 1) + U.left ≤ C + 1
          split <;> omega) y
        unfold aft
        split
        · exact hd _ _ _ _ (hv _)
        · exact hv _
    · exact hi
theorem fews_all {w : List T7} {C : Nat} (hg : ∀ a l, g a = false → (f a l).2 ≠ 41) (root : Nat) {t : St SP} (ht : FewS C t) : FewS C (allS (lkP f g) (ydP w h) (ctP w h) root t) :=
  fews_tab hg (fun a b c _ ht => fews_tab hg (fun a b c _ ht => fews_tab hg (fun _ _ _ _ ht => ht) a b c ht 512) a b c ht 512) root 0 0 ht 512
/-- what a round of the law comes to: never something else; all, or more than h; no more strays than may be told -/
theorem round_end (hg : ∀ a l, g a = false → (f a l).2 ≠ 41) (root most : Nat) (h1 : 1 ≤ most) (h : Nat) (q : Nat) (hw : want = (allS (lkL f) ydL ctL root { s := [], left := most, go := true }).s) :
    (((allS (lkP f g) (ydP (want.map td) h) (ctP (want.map td) h) root { s := (q, 0, 0), left := most, go := true }).s.2.2 = 0 ∧ (allS (lkP f g) (ydP (want.map td) h) (ctP (want.map td) h) root { s := (q, 0, 0), left := most, go := true }).s.2.1 = want.length) ∨ ((allS (lkP f g) (ydP (want.map td) h) (ctP (want.map td) h) root { s := (q, 0, 0), left := most, go := true }).s.2.2 = 1 ∧ h < (allS (lkP f g) (ydP (want.map td) h) (ctP (want.map td) h) root { s := (q, 0, 0), left := most, go := true }).s.2.1 ∧ (allS (lkP f g) (ydP (want.map td) h) (ctP (want.map td) h) root { s := (q, 0, 0), left := most, go := true }).s.2.1 ≤ want.length)) ∧ (allS (lkP f g) (ydP (want.map td) h) (ctP (want.map td) h) root { s := (q, 0, 0), left := most, go := true }).s.1 ≤ q + most := by
  have hr := all_rel (f := f) (g := g) (want := want) (h := h) root (t := { s := (q, 0, 0), left := most, go := true }) (u := { s := [], left := most, go := true }) (.inl ⟨rfl, rfl, rfl, rfl⟩) (by rw [← hw]; exact List.prefix_refl _)
  have hf := fews_all (f := f) (g := g) (w := want.map td) (h := h) (C := q + most) hg root (t := { s := (q, 0, 0), left := most, go := true }) ⟨fun _ => h1, Nat.le_refl _⟩
  rw [hw] at hr
  rw [← hw] at hr
  generalize allS (lkP f g) (ydP (want.map td) h) (ctP (want.map td) h) root { s := (q, 0, 0), left := most, go := true } = T at hr hf ⊢
  refine ⟨?_, Nat.le_trans (Nat.le_add_right _ _) hf.2⟩
  rcases hr with ⟨e1, e2, _, _⟩ | ⟨e1, _, e3, e4⟩
  · exact .inl ⟨e1, by rw [e2, ← hw]⟩
  · exact .inr ⟨e1, e3, by rw [← hw] at e4; exact e4⟩
end
end Go.Proofs.YtdkhhofgfbnmkaaGreat
