import Derived.Test.YtfnikcjcgneboaaGreatPk34
import Derived.Test.YtfnikcjcgneboaaGreatPk37
/- The two machines of the law, what lies in both, and what they count. Own work. -/
namespace Go.Proofs.YtfnikcjcgneboaaGreat
open Go.RowKit Go.Maps Go.Proofs.YtfnikcjcgneboaaGreat.Sp Wk
/-- what a machine holds and what it has counted: its memory, loads, stores -/
abbrev Hs := (Nat → Nat) × Nat × Nat
open Classical in
noncomputable def stF (LL : List Sp) (a val : Nat) (p : Hs) : Hs := if ∀ i : Nat, i < 8 → On LL ((a : Int) + i) then (putAt p.1 a ((Pl.le 8 val).take 8), p.2.1, p.2.2 + 1) else p
theorem stF_off {LL : List Sp} {a val : Nat} {p : Hs} {x : Int} {b : Bool} (h : OffR LL a 8 x b) : stF LL a val p = if b then p else (putAt p.1 a ((Pl.le 8 val).take 8), p.2.1, p.2.2 + 1) := by
  unfold stF
  cases b with
  | true =>
    obtain ⟨i, hi, _, _, hn, _⟩ := h.1 rfl
    rw [if_neg (fun hh => hn (hh i hi))]
    rfl
  | false =>
    rw [if_pos (h.2 rfl).2]
    rfl
theorem stF_le (LL : List Sp) (a val : Nat) (p : Hs) : (stF LL a val p).2.1 = p.2.1 ∧ (stF LL a val p).2.2 ≤ p.2.2 + 1 := by
  unfold stF
  split
  · exact ⟨rfl, Nat.le_refl _⟩
  · exact ⟨rfl, Nat.le_succ _⟩
noncomputable def layF (LL : List Sp) (ws : List Sp) : Hs := ws.foldl (fun p x => stF LL x.1.toNat x.2.toNat p) (fun _ => 0, 0, 0)
theorem layF_snoc (LL : List Sp) (ws : List Sp) (x : Sp) : layF LL (ws ++ [x]) = stF LL x.1.toNat x.2.toNat (layF LL ws) := by
  unfold layF
  rw [List.foldl_append]
  rfl
theorem layF_le (LL : List Sp) (ws : List Sp) : ∀ i, i ≤ ws.length → (layF LL (ws.take i)).2.1 = 0 ∧ (layF LL (ws.take i)).2.2 ≤ i
  | 0, _ => by simp [layF]
  | i + 1, h => by
    have ih := layF_le LL ws i (by omega)
    rw [List.take_add_one, List.getElem?_eq_getElem (by omega)]
    rw [show (some (ws[i]'(by omega))).toList = [ws[i]'(by omega)] from rfl, layF_snoc]
    have := stF_le LL (ws[i]'(by omega)).1.toNat (ws[i]'(by omega)).2.toNat (layF LL (ws.take i))
    exact ⟨this.1.trans ih.1, by omega⟩
/-- a machine and the document's own beside it -/
def GM (w0 wr : World) (base m B : Nat) (V : Value × Value × Value) (v : Nat) (vr vd : Value) (rs ds : List Sp) (p q : Hs) (n k : Nat) : Prop :=
  ∃ T X, X ≤ n ∧ Mac wr m B V T p.1 rs ds p.2.1 p.2.2 X ∧ (∀ j, Mine m B V T j → w0.heap.size ≤ j) ∧ (∀ j, Mine m B V (fun _ => none) j → j < base) ∧ w0.heap.size ≤ base ∧ base ≤ wr.heap.size ∧ Below w0.heap.size w0 wr ∧ ∃ vp ps X', X' ≤ k ∧ RM wr base v vr vd vp ps q.1 q.2.1 q.2.2 X'
theorem Mac.mx {w : World} {m B : Nat} {V : Value × Value × Value} {T : Nat → Option Nat} {M : Nat → Nat} {rs ds : List Sp} {L S X : Nat} (h : Mac w m B V T M rs ds L S X) : Mx w m B V T M rs ds (L + S + X) := ⟨L, S, X, by omega, by omega, by omega, h⟩
theorem GM.below {w0 wr W : World} {base m B : Nat} {V : Value × Value × Value} {v : Nat} {vr vd : Value} {rs ds : List Sp} {p q : Hs} {n k : Nat} (h : GM w0 wr base m B V v vr vd rs ds p q n k) (hb : Below wr.heap.size wr W) : GM w0 W base m B V v vr vd rs ds p q n k := by
  obtain ⟨T, X, hX, h1, h2, h3, h4, h5, h6, vp, ps, X', hX', h7⟩ := h
  exact ⟨T, X, hX, h1.below hb, h2, h3, h4, Nat.le_trans h5 hb.size, h6.trans (hb.mono h6.size), vp, ps, X', hX', h7.below hb⟩
theorem gm_store1 {w0 wr : World} {base m B : Nat} {V : Value × Value × Value} {v : Nat} {vr vd : Value} {rs ds : List Sp} {p q : Hs} {n k a val : Nat} (h : GM w0 wr base m B V v vr vd rs ds p q n k) (ha : a ≤ 18446744073709551615) (hval : val ≤ 18446744073709551615) (hn : n ≤ 4611686018427387904) (hS : p.2.2 ≤ 4611686018427387904) :
    Calls Tryz.prog 22 #[.pointer (some ⟨m, 0, none⟩), .int .u64 (a : Int), .int .i64 8, .int .u64 (val : Int)] wr fun e w' => ∃ x b, OffR (rs ++ ds) a 8 x b ∧ e = .returned (FaultV (if b then 30 else 0) x) ∧ Hid (GM w0 w' base m B V v vr vd rs ds (stF (rs ++ ds) a val p) q (n + 1) k) := by
  obtain ⟨T, X, hX, h1, h2, h3, h4, h5, h6, vp, ps, X', hX', h7⟩ := h
  refine (store_any (n := 8) h1 ha (.inr (.inr (.inr rfl))) hval (by omega) hS).mono ?_
  rintro e w' ⟨x, b, ho, rfl, hk, hb1, hb2⟩
  refine ⟨x, b, ho, rfl, ?_⟩
  have hz : ∀ j, (j = m ∨ Foot B T j) → w0.heap.size ≤ j := fun j e => h2 j (e.elim .inl (fun e => .inr (.inl e)))
  have hRM : RM w' base v vr vd vp ps q.1 q.2.1 q.2.2 X' := h7.keeps hk (fun j hv e => mine_notVB h1.mx h3 j (e.elim .inl (fun e => .inr (.inl e))) hv)
  have hB := below_keeps h6 hk hz
  rw [stF_off ho]
  cases b with
  | true => exact ⟨T, X + 1, by omega, hb1 rfl, h2, h3, h4, Nat.le_trans h5 hk.size, hB, vp, ps, X', hX', hRM⟩
  | false =>
    obtain ⟨T', hm', hg⟩ := hb2 rfl
    refine ⟨T', X, by omega, hm', fun j hj => ?_, h3, h4, Nat.le_trans h5 hk.size, hB, vp, ps, X', hX', hRM⟩
    rcases hj with rfl | (rfl | ⟨i, hi⟩) | hj
    · exact h2 _ (.inl rfl)
    · exact h2 _ (.inr (.inl (.inl rfl)))
    · rcases hg i j hi with hi | hi
      · exact h2 _ (.inr (.inl (.inr ⟨i, hi⟩)))
      · exact Nat.le_trans h6.size hi
    · exact h2 _ (.inr (.inr hj))
theorem gm_store2 {w0 wr : World} {base m B : Nat} {V : Value × Value × Value} {v : Nat} {vr vd : Value} {rs ds : List Sp} {p q : Hs} {n k a val : Nat} (h : GM w0 wr base m B V v vr vd rs ds p q n k) (hr : U64.SV w0 vr rs) (hd : U64.SV w0 vd ds) (hl : rs.length + ds.length ≤ 64) (ha : a ≤ 18446744073709551615) (hn : k ≤ 4611686018427387904) (hS : q.2.2 ≤ 4611686018427387904) :
    Calls Tryz.prog 12 #[.pointer (some ⟨v, 0, none⟩), .int .u64 (a : Int), .int .i64 8, .int .u64 (val : Int)] wr fun e w' => ∃ x b, OffR (rs ++ ds) a 8 x b ∧ e = .returned (FaultV (if b then 30 else 0) x) ∧ Hid (GM w0 w' base m B V v vr vd rs ds p (stF (rs ++ ds) a val q) n (k + 1)) := by
  obtain ⟨T, X, hX, h1, h2, h3, h4, h5, h6, vp, ps, X', hX', h7⟩ := h
  have hsn : Sane (rs ++ ds) := h1.mx.sane
  refine (rstore_at (n := 8) h7 (.inr (.inr (.inr rfl))) h5 (hr.below h6 (Nat.le_refl _)) (hd.below h6 (Nat.le_refl _)) hsn hl ha (by omega) hS).mono ?_
  rintro e w' ⟨x, b, ho, rfl, hk, hb1, hb2⟩
  refine ⟨x, b, ho, rfl, ?_⟩
  have hM : Mac w' m B V T p.1 rs ds p.2.1 p.2.2 X := h1.keeps hk (mine_notVB h1.mx h3)
  have hB := below_keeps h6 hk (fun j e => Nat.le_trans h4 e.1)
  rw [stF_off ho]
  cases b with
  | true => exact ⟨T, X, hX, hM, h2, h3, h4, Nat.le_trans h5 hk.size, hB, vp, ps, X' + 1, by omega, hb1 rfl⟩
  | false =>
    obtain ⟨vp', ps', hr'⟩ := hb2 rfl
    exact ⟨T, X, hX, hM, h2, h3, h4, Nat.le_trans h5 hk.size, hB, vp', ps', X', by omega, hr'⟩
end Go.Proofs.YtfnikcjcgneboaaGreat
