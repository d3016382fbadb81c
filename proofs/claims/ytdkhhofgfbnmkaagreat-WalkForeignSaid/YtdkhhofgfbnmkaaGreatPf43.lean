import Derived.Test.YtdkhhofgfbnmkaaGreatPf42
import Derived.Test.YtdkhhofgfbnmkaaGreatPf15
import Derived.Test.YtdkhhofgfbnmkaaGreatPf30
import Derived.Test.YtdkhhofgfbnmkaaGreatPf31
import Derived.Test.YtdkhhofgfbnmkaaGreatPf32
import Derived.Test.YtdkhhofgfbnmkaaGreatPf14
/- The document's own Store through tables. Own work. -/
namespace Go.Proofs.YtdkhhofgfbnmkaaGreat
open Go.RowKit Go.Maps Go.Proofs.YtdkhhofgfbnmkaaGreat.Sp Wk Lv
/-- what holds while the bytes are stored -/
structure SI (w0 w : World) (base v gf gr : Nat) (vr vd : Value) (M : Nat → Nat) (L S X : Nat) (k a : Int) (vl : Value) (b0 : Nat) (xs : List Nat) (W : World) : Prop where
  below : Below w0.heap.size w0 W
  keeps : Kv base w W
  mac : ∃ vp ps, RM W base v vr vd vp ps M L S X
  zero : BoxG W gf 0 0
  fault : BoxG W gr k a
  row : OwnA W b0 vl xs
theorem boxG_notVB {w : World} {base g : Nat} {x y : Int} (h : BoxG w g x y) : ∀ j, VB base w j → ¬ j = g := by
  rintro j ⟨_, c, t, fr, hc, ht⟩ rfl
  rw [show w.heap[j]? = _ from h] at hc
  cases hc
  rcases ht with ht | ht | ht <;> cases ht
theorem ownA_notVB {w : World} {base b : Nat} {vl : Value} {xs : List Nat} (h : OwnA w b vl xs) : ∀ j, VB base w j → ¬ vl.ownBlock = some j := by
  rintro j ⟨_, c, t, fr, hc, ht⟩ e
  obtain ⟨_, cur, h2⟩ := h.tag e
  rw [h2] at hc
  cases hc
  rcases ht with ht | ht | ht <;> cases ht
theorem SI.step {w0 w : World} {base v gf gr : Nat} {vr vd : Value} {M M' : Nat → Nat} {L S X S' : Nat} {k a : Int} {vl : Value} {b0 : Nat} {xs : List Nat} {W W' : World} (h : SI w0 w base v gf gr vr vd M L S X k a vl b0 xs W) (hb : w0.heap.size ≤ base) (hk : Kv base W W') (hm : ∃ vp ps, RM W' base v vr vd vp ps M' L S' X) : SI w0 w base v gf gr vr vd M' L S' X k a vl b0 xs W' :=
  ⟨below_keeps h.below hk (fun _ e => Nat.le_trans hb e.1), h.keeps.trans hk, hm, h.zero.keeps hk (fun e => boxG_notVB h.zero _ e rfl), h.fault.keeps hk (fun e => boxG_notVB h.fault _ e rfl), h.row.keeps hk (fun _ e e' => ownA_notVB h.row _ e' e)⟩
theorem le_take1 {z : Nat} (h : z < 256) : (Pl.le 8 z).take 1 = [z] := by
  show [z % 256] = [z]
  rw [Nat.mod_eq_of_lt h]
/-- what the document's Store answers -/
def StP4 (w : World) (base v : Nat) (vr vd : Value) (M : Nat → Nat) (LL : List Sp) (L S X t vi val k : Nat) (e : Ending) (w' : World) : Prop :=
  Kv base w w' ∧ ((∃ why x, reachF LL M t vi 2 k = some (why, x) ∧ e = .returned (.agg #[.int .i64 why, .int .u64 (x : Int)]) ∧ ∃ vp ps, RM w' base v vr vd vp ps M L S X) ∨ (reachF LL M t vi 2 k = none ∧ e = .returned (.agg #[.int .i64 0, .int .u64 0]) ∧ ∃ vp ps, RM w' base v vr vd vp ps (stM LL M t vi val k) L (S + k) X))
set_option maxRecDepth 100000 in
set_option maxHeartbeats 4000000 in
theorem rst_of {w0 w : World} {base v : Nat} {vr vd vp : Value} {ps : List (Int × Nat)} {M : Nat → Nat} {L S X : Nat} {rs ds : List Sp} {t vi val k : Nat} (h : RM w base v vr vd vp ps M L S X) (hb0 : Below w0.heap.size w0 w) (hbs : w0.heap.size ≤ base) (hbw : base ≤ w.heap.size) (hv0 : w0.heap.size ≤ v) (hvs : v < w.heap.size) (hr : U64.SV w0 vr rs) (hd : U64.SV w0 vd ds) (hs : Sane (rs ++ ds)) (hll : rs.length + ds.length ≤ 64) (hX : X ≤ 4611686018427387904) (hS : S ≤ 4611686018427387000) (ht : t ≤ 18446744073709551615) (hval : val ≤ 18446744073709551615) (hk : Wide k) :
    Calls Tryz.prog 25 #[.pointer (some ⟨v, 0, none⟩), .int .u64 (t : Int), .int .u64 (vi : Int), .int .i64 (k : Int), .int .u64 (val : Int)] w (StP4 w base v vr vd M (rs ++ ds) L S X t vi val k) := by
  obtain ⟨W1, hW1⟩ : ∃ W1, w.alloc (Obj.cells #[.int .i64 0, .int .u64 0] 41) = W1 := ⟨_, rfl⟩
  have HB1 : Hid (Below w.heap.size w W1) := hW1 ▸ (Below.refl _ w).alloc (Nat.le_refl _) _
  have HG1 : Hid (BoxG W1 w.heap.size 0 0) := hW1 ▸ BoxG.new w 0 0
  have hs1 : W1.heap.size = w.heap.size + 1 := by rw [← hW1]; simp
  have HBs := Lib.hid (rbytes_of (w0 := w0) (rs := rs) (ds := ds) (t := t) (vi := vi) (k := k) (acc := 2) (h.below HB1.out) (hb0.trans (HB1.out.mono hb0.size)) hv0 (by omega) hr hd hs hll hX ht hk)
  have HVB : Hid (VB base w v) := ⟨h.1, _, _, _, h.2.1, .inl rfl⟩
  have HSt : Hid (∀ W gf gr (c a : Int) vl b0 xs (q p z : Nat) M', q ≤ 4611686018427387904 → p ≤ 18446744073709551615 → On (rs ++ ds) (p : Int) → base ≤ W.heap.size → SI w0 w base v gf gr vr vd M' L q X c a vl b0 xs W → Calls Tryz.prog 11 #[.pointer (some ⟨v, 0, none⟩), .int .u64 (p : Int), .int .i64 1, .int .u64 (z : Int)] W fun e w' => (∃ y, e = .returned y) ∧ SI w0 w base v gf gr vr vd (putAt M' p ((Pl.le 8 z).take 1)) L (q + 1) X c a vl b0 xs w') := fun W gf gr c a vl b0 xs q p z M' hq hp ho hbW hI => by
    obtain ⟨vp', ps', hm'⟩ := hI.mac
    refine (rstore_at (n := 1) hm' (.inl rfl) hbW (hr.below hI.below (Nat.le_refl _)) (hd.below hI.below (Nat.le_refl _)) hs hll hp hX hq).mono ?_
    rintro e w' ⟨x, b, hof, rfl, hkk, _, hb2⟩
    cases b with
    | true =>
      obtain ⟨i, hi, _, _, hn, _⟩ := hof.1 rfl
      obtain rfl : i = 0 := by omega
      exact absurd (by simpa using ho) hn
    | false => exact ⟨⟨_, rfl⟩, hI.step hbs hkk (hb2 rfl)⟩
  have HW0 := Lib.hid hb0
  have hk1 : k ≤ 8 ∧ 1 ≤ k := by rcases hk with rfl | rfl | rfl | rfl <;> omega
  clear h hr hd hs hll hX hb0 hk
  generalize rs ++ ds = LL at *
  go_enter Tryz.func25, Tryz.ntmps25
  go_wp2_with fail
  refine HBs.out.mono ?_
  rintro e w2 ⟨hm2, hk2, hc⟩
  have HMk : Hid (∀ (K A : Int) vl xs, OwnA w2 (W1.heap.size + 1) vl xs → SI w0 w base v w.heap.size w2.heap.size vr vd M L S X K A vl (W1.heap.size + 1) xs (w2.alloc (Obj.cells #[.int .i64 K, .int .u64 A] 41))) := fun K A vl xs ho => by
    have hb : Below w2.heap.size w2 (w2.alloc (Obj.cells #[.int .i64 K, .int .u64 A] 41)) := (Below.refl _ _).alloc (Nat.le_refl _) _
    have hb1 : Below w0.heap.size w0 w2 := below_keeps (HW0.out.trans (HB1.out.mono HW0.out.size)) hk2 (fun j e => by rw [e]; exact hv0)
    have hkk : Keeps (fun j => j = v) w (w2.alloc (Obj.cells #[.int .i64 K, .int .u64 A] 41)) := ((Keeps.of_below (S := fun j => j = v) HB1.out).trans hk2 (fun _ _ e => e)).trans (Keeps.of_below (S := fun _ => False) hb) (fun _ _ e => e.elim)
    exact ⟨hb1.trans (hb.mono hb1.size), Kv.of hkk (fun j _ e => by rw [show j = v from e]; exact HVB.out), ⟨_, _, hm2.below hb⟩, (HG1.out.keeps hk2 (by omega)).below hb, BoxG.new w2 K A, ho.below hb⟩
  have hz2 : w.heap.size + 1 ≤ w2.heap.size := by rw [← hs1]; exact hk2.size
  have HS1 := Lib.hid hs1
  have HEnd : Hid (∀ q M' (K A : Int) vl xs W, SI w0 w base v w.heap.size w2.heap.size vr vd M' L q X K A vl (W1.heap.size + 1) xs W → (∃ vp ps, RM ((W.setCell ⟨w.heap.size, 0, none⟩ (.int .i64 K)).setCell ⟨w.heap.size, 1, none⟩ (.int .u64 A)) base v vr vd vp ps M' L q X) ∧ Kv base w ((W.setCell ⟨w.heap.size, 0, none⟩ (.int .i64 K)).setCell ⟨w.heap.size, 1, none⟩ (.int .u64 A))) := fun q M' K A vl xs W hI => by
    have hk := Keeps.two W w.heap.size (.int .i64 K) (.int .u64 A)
    obtain ⟨vp', ps', hm'⟩ := hI.mac
    exact ⟨⟨vp', ps', hm'.keeps hk (boxG_notVB hI.zero)⟩, Keeps.trans hI.keeps hk (fun j hj e => by omega)⟩
  rcases hc with ⟨why, x, hre, rfl⟩ | ⟨hre, hall, vl, rfl, hown⟩
  · have HRe := Lib.hid hre
    have HI3 := Lib.hid (HMk.out why (x : Int) (.slice none 0 0) [] (OwnA.nil _ _))
    clear hm2 hk2 hre HMk HBs HSt hW1 HB1 HG1 hs1 HVB
    go_upto_region 2 with fail
    obtain ⟨W3, hW3⟩ : ∃ W3, w2.alloc (Obj.cells #[.int .i64 why, .int .u64 (x : Int)] 41) = W3 := ⟨_, rfl⟩
    rw [hW3] at HI3 ⊢
    clear hW3
    obtain ⟨g0, g1, _, _⟩ := HI3.out.fault.cells
    obtain ⟨q0, q1, q2, q3⟩ := HI3.out.zero.cells
    obtain ⟨s0, s1, _, _⟩ := (HI3.out.zero.set why (x : Int)).cells
    have HF := Lib.hid (HEnd.out _ _ why (x : Int) _ _ _ HI3.out)
    clear HI3 HEnd
    go_wp2_with fail
    refine wp_loop_rounds 1 ?_
    rw [rounds_succ]
    go_wp2_with fail
    refine bodyPost_ret (v := .agg #[.int .i64 why, .int .u64 (x : Int)]) (by simp [results, Tryz.results25, go_sem, s0, s1]) rfl ?_
    exact ⟨HF.out.2, .inl ⟨why, x, HRe.out, rfl, HF.out.1⟩⟩
  · have HRe := Lib.hid hre
    have HAl := Lib.hid hall
    have HI3 := Lib.hid (HMk.out 0 0 vl (adL LL M t vi 2 k) hown)
    obtain ⟨al, cl, rfl, hc1, hc2⟩ := hown.form
    rw [adL_len] at hc1 HI3 ⊢
    unfold maxLen at hc2
    clear hm2 hk2 hre hall hown HMk HBs hW1 HB1 HG1 hs1 HVB
    go_upto_region 2 with fail
    obtain ⟨W3, hW3⟩ : ∃ W3, w2.alloc (Obj.cells #[.int .i64 0, .int .u64 0] 41) = W3 := ⟨_, rfl⟩
    rw [hW3] at HI3 ⊢
    clear hW3
    go_wp2_with fail
    go_loopw [13] (fun iv wr => ∃ i : Nat, iv = .int .i64 (i : Int) ∧ i ≤ k ∧ Hid (SI w0 w base v w.heap.size w2.heap.size vr vd (stM LL M t vi val i) L (S + i) X 0 0 (.slice al k cl) (W1.heap.size + 1) (adL LL M t vi 2 k) wr)) (fun iv _ => k - (intOf iv).toNat)
    case atStart => exact ⟨0, rfl, Nat.zero_le _, HI3⟩
    case round =>
      obtain ⟨i, rfl, hi, HI4⟩ := hrel
      clear HI3
      by_cases hlt : i < k
      · have qi : (i : Int) < (k : Int) := by omega
        obtain ⟨g, hal, hc⟩ := HI4.out.row.cell i (by rw [adL_len]; exact hlt)
        subst hal
        obtain ⟨P, hP⟩ : ∃ P, P = (ad LL M t vi 2 i).1 := ⟨_, rfl⟩
        have hc3 : wr.cell? ⟨g, i, none⟩ = some (.int .u64 (P : Int)) := by
          rw [hc, hP]
          simp [adL]
        have hP2 : P ≤ 18446744073709551615 := by rw [hP]; exact adrF_le _ _ _ _ _
        have hbW : base ≤ wr.heap.size := Nat.le_trans hbw HI4.out.keeps.size
        have HO1 : Hid (∀ q : Int, q = ((val / 2 ^ (8 * i) % 256 : Nat) : Int) → Calls Tryz.prog 11 #[.pointer (some ⟨v, 0, none⟩), .int .u64 (P : Int), .int .i64 1, .int .u64 q] wr fun e w' => (∃ y, e = .returned y) ∧ SI w0 w base v w.heap.size w2.heap.size vr vd (stM LL M t vi val (i + 1)) L (S + (i + 1)) X 0 0 (.slice (some ⟨g, 0, none⟩) k cl) (W1.heap.size + 1) (adL LL M t vi 2 k) w') := fun q hq => by
          have := HSt.out wr _ _ _ _ _ _ _ (S + i) P (val / 2 ^ (8 * i) % 256) _ (by omega) hP2 (by rw [hP]; exact (HAl.out i hlt).2) hbW HI4.out
          rw [hq]
          refine this.mono ?_
          rintro e w' ⟨h1, h2⟩
          refine ⟨h1, ?_⟩
          rw [le_take1 (Nat.mod_lt _ (by decide)), hP, ← le_shiftR val i (by omega)] at h2
          exact h2
        clear hc hP HSt HAl HI4
        have hi8 : i < 8 := by omega
        rcases (by omega : i = 0 ∨ i = 1 ∨ i = 2 ∨ i = 3 ∨ i = 4 ∨ i = 5 ∨ i = 6 ∨ i = 7) with rfl | rfl | rfl | rfl | rfl | rfl | rfl | rfl
        all_goals
          go_upto_region 5 with fail
          go_wp2_with fail
          refine (HO1.out _ (by first | rfl | omega)).mono ?_
          rintro e w5 ⟨⟨y, rfl⟩, hI5⟩
          have HI5 := Lib.hid hI5
          clear hI5 HO1 hc3
          go_wp2_with fail
          exact ⟨⟨_, by go_num, by omega, HI5⟩, by simp [intOf]; omega⟩
      · have qi : ¬ (i : Int) < (k : Int) := by omega
        obtain rfl : i = k := by omega
        obtain ⟨g0, g1, _, _⟩ := HI4.out.fault.cells
        obtain ⟨q0, q1, q2, q3⟩ := HI4.out.zero.cells
        obtain ⟨s0, s1, _, _⟩ := (HI4.out.zero.set 0 0).cells
        have HF := Lib.hid (HEnd.out _ _ 0 0 _ _ _ HI4.out)
        clear HI4 HEnd HSt HAl
        go_wp2_with fail
        refine bodyPost_ret (v := .agg #[.int .i64 0, .int .u64 0]) (by simp [results, Tryz.results25, go_sem, s0, s1]) rfl ?_
        exact ⟨HF.out.2, .inr ⟨HRe.out, rfl, HF.out.1⟩⟩
end Go.Proofs.YtdkhhofgfbnmkaaGreat
/- WalkForeign: the tape's methods. Own work. -/
namespace Go.Proofs.YtdkhhofgfbnmkaaGreat
open Go.RowKit Go.Maps Go.Proofs.YtdkhhofgfbnmkaaGreat.Sp Wk
/-- a machine of the document's own behind a tape; what came in lies below w0 -/
def Tx (w : World) (m : Nat) (w0 : World) (base : Nat) (vr vd vp : Value) (ps : List (Int × Nat)) (M : Nat → Nat) (rs ds : List Sp) (L S X : Nat) : Prop := RM w base m vr vd vp ps M L S X ∧ Below w0.heap.size w0 w ∧ U64.SV w0 vr rs ∧ U64.SV w0 vd ds ∧ Sane (rs ++ ds) ∧ rs.length + ds.length ≤ 64 ∧ w0.heap.size ≤ base
/-- its Strays are at most n -/
def Ty (w : World) (m : Nat) (w0 : World) (base : Nat) (vr vd vp : Value) (ps : List (Int × Nat)) (M : Nat → Nat) (rs ds : List Sp) (L S n : Nat) : Prop := ∃ X, X ≤ n ∧ Tx w m w0 base vr vd vp ps M rs ds L S X
/-- what it may not lose -/
def Mt (w0 : World) (m : Nat) (vp : Value) (ps : List (Int × Nat)) (j : Nat) : Prop := Fo m vp ps j ∨ j < w0.heap.size
/-- the tape as a Memory -/
def MemT (m : Nat) : Value := .iface 46 (.agg #[.pointer (some ⟨m, 0, none⟩)])
section
variable {w w' w0 : World} {m base : Nat} {vr vd vp : Value} {ps : List (Int × Nat)} {M : Nat → Nat} {rs ds : List Sp} {L S n k : Nat}
theorem Tx.keeps {Z : Nat → Prop} (h : Tx w m w0 base vr vd vp ps M rs ds L S n) (hk : Keeps Z w w') (hn : ∀ j, Mt w0 m vp ps j → ¬ Z j) : Tx w' m w0 base vr vd vp ps M rs ds L S n := by
  obtain ⟨h4, h5, h6⟩ := h
  exact ⟨h4.keepsF hk (fun j hj => hn j (.inl hj)), below_keeps h5 hk (fun j e => Nat.le_of_not_lt fun hj => hn j (.inr hj) e), h6⟩
theorem Tx.below (h : Tx w m w0 base vr vd vp ps M rs ds L S n) (hb : Below w.heap.size w w') : Tx w' m w0 base vr vd vp ps M rs ds L S n :=
  h.keeps (Keeps.of_below (S := fun _ => False) hb) (fun _ _ h => h)
theorem Tx.mine_lt (h : Tx w m w0 base vr vd vp ps M rs ds L S n) {j : Nat} (hj : Mt w0 m vp ps j) : j < w.heap.size := by
  obtain ⟨h4, h5, _⟩ := h
  rcases hj with hj | hj
  · exact (h4.fo hj).lt
  · exact Nat.lt_of_lt_of_le hj h5.size
theorem Tx.lt (h : Tx w m w0 base vr vd vp ps M rs ds L S n) : m < w.heap.size := h.mine_lt (.inl (.inl rfl))
theorem Tx.sane (h : Tx w m w0 base vr vd vp ps M rs ds L S n) : Sane (rs ++ ds) := h.2.2.2.2.1
theorem Tx.small (h : Tx w m w0 base vr vd vp ps M rs ds L S n) : ∀ p, M p < 256 := h.1.2.2.2.2.2.2.1
theorem Tx.base_le (h : Tx w m w0 base vr vd vp ps M rs ds L S n) : w0.heap.size ≤ base ∧ base ≤ m := ⟨h.2.2.2.2.2.2, h.1.1⟩
theorem Ty.mono (h : Ty w m w0 base vr vd vp ps M rs ds L S n) (hk : n ≤ k) : Ty w m w0 base vr vd vp ps M rs ds L S k := by
  obtain ⟨X, h3, h4⟩ := h
  exact ⟨X, by omega, h4⟩
theorem Ty.keeps {Z : Nat → Prop} (h : Ty w m w0 base vr vd vp ps M rs ds L S n) (hk : Keeps Z w w') (hn : ∀ j, Mt w0 m vp ps j → ¬ Z j) : Ty w' m w0 base vr vd vp ps M rs ds L S n := by
  obtain ⟨X, h3, h4⟩ := h
  exact ⟨X, h3, h4.keeps hk hn⟩
theorem Ty.below (h : Ty w m w0 base vr vd vp ps M rs ds L S n) (hb : Below w.heap.size w w') : Ty w' m w0 base vr vd vp ps M rs ds L S n :=
  h.keeps (Keeps.of_below (S := fun _ => False) hb) (fun _ _ h => h)
theorem Ty.mine_lt (h : Ty w m w0 base vr vd vp ps M rs ds L S n) {j : Nat} (hj : Mt w0 m vp ps j) : j < w.heap.size := by
  obtain ⟨X, _, h4⟩ := h
  exact h4.mine_lt hj
theorem Ty.lt (h : Ty w m w0 base vr vd vp ps M rs ds L S n) : m < w.heap.size := h.mine_lt (.inl (.inl rfl))
theorem Ty.sane (h : Ty w m w0 base vr vd vp ps M rs ds L S n) : Sane (rs ++ ds) := by
  obtain ⟨X, _, h4⟩ := h
  exact h4.sane
theorem Ty.small (h : Ty w m w0 base vr vd vp ps M rs ds L S n) : ∀ p, M p < 256 := by
  obtain ⟨X, _, h4⟩ := h
  exact h4.small
theorem Ty.base_le (h : Ty w m w0 base vr vd vp ps M rs ds L S n) : w0.heap.size ≤ base ∧ base ≤ m := by
  obtain ⟨X, _, h4⟩ := h
  exact h4.base_le
end
set_option maxRecDepth 100000 in
set_option maxHeartbeats 4000000 in
theorem told_any (w : World) (k : Nat) (a : Int) : Calls Tryz.prog 144 #[.agg #[.int .i64 (k : Int), .int .u64 a]] w fun e w' => e = .returned (.agg #[.int .i64 (k : Int), .int .u64 a]) ∧ Below w.heap.size w w' := by
  go_enter Tryz.func144, Tryz.ntmps144
  go_wp2_with fail
  have hc : (((w.alloc (Obj.cells #[.int .i64 (k : Int), .int .u64 a] 41)).alloc (Obj.cells #[.int .i64 (k : Int), .int .u64 a] 57))).heap[w.heap.size + 1]? = some (.cells #[.int .i64 (k : Int), .int .u64 a] 57 (0, 0)) := by
    rw [heap_alloc_new' (by simp)]
  have d0 := cell_of_row _ _ 0 _ _ _ hc
  have d1 := cell_of_row _ _ 1 _ _ _ hc
  refine bodyPost_ret (v := .agg #[.int .i64 (k : Int), .int .u64 a]) (by simp [results, Tryz.results144, go_sem, d0, d1]) rfl ?_
  exact ⟨rfl, ((Below.refl _ _).alloc (Nat.le_refl _) _).alloc (by simp) _⟩
set_option maxRecDepth 100000 in
set_option maxHeartbeats 4000000 in
theorem tpeek_any {w w0 : World} {m base : Nat} {vr vd vp : Value} {ps : List (Int × Nat)} {M : Nat → Nat} {rs ds : List Sp} {L S n a k : Nat} (h : Tx w m w0 base vr vd vp ps M rs ds L S n) (ha : a ≤ 18446744073709551615) (hw : Wide k) (hn : n ≤ 4611686018427387904) :
    Calls Tryz.prog 142 #[.agg #[.pointer (some ⟨m, 0, none⟩)], .int .u64 (a : Int), .int .i64 (k : Int)] w fun e w' => ∃ x b, OffR (rs ++ ds) a k x b ∧ e = .returned (.tuple #[.int .u64 (if b then 0 else (Pl.num 8 (rdTo M a 8 k) : Nat) : Int), FaultV (if b then 30 else 0) x]) ∧ Tx w' m w0 base vr vd vp ps M rs ds L S (up b n) ∧ Keeps (fun j => j = m) w w' := by
  have hml := h.lt
  have HM := Lib.hid h
  have HPk : Hid (∀ W, Below w.heap.size w W → Calls Tryz.prog 76 #[.pointer (some ⟨m, 0, none⟩), .int .u64 (a : Int), .int .i64 (k : Int)] W fun e w' => ∃ x b, OffR (rs ++ ds) a k x b ∧ e = .returned (.tuple #[.int .u64 (if b then 0 else (Pl.num 8 (rdTo M a 8 k) : Nat) : Int), FaultV (if b then 30 else 0) x]) ∧ Tx w' m w0 base vr vd vp ps M rs ds L S (up b n) ∧ Keeps (fun j => j = m) W w') := fun W hW => by
    obtain ⟨h4, h5, h6, h7, h8, h9, h10⟩ := h.below hW
    refine (rpeek_at h4 hw (h6.below h5 (Nat.le_refl _)) (h7.below h5 (Nat.le_refl _)) h8 h9 ha hn).mono ?_
    rintro e w' ⟨x, b, ho, rfl, hm, hk⟩
    exact ⟨x, b, ho, rfl, ⟨hm, below_keeps h5 hk (fun j e => by rw [show j = m from e]; exact Nat.le_trans h10 h4.1), h6, h7, h8, h9, h10⟩, hk⟩
  have HTo := Lib.hid told_any
  generalize Pl.num 8 (rdTo M a 8 k) = N at *
  clear h
  go_enter Tryz.func142, Tryz.ntmps142
  go_wp2_with fail
  have HB1 := Lib.hid (((Below.refl w.heap.size w).alloc (Nat.le_refl _) (Obj.cells #[.pointer (some ⟨m, 0, none⟩)] 46)).alloc (by simp) (Obj.cells #[.int .i64 0, .int .u64 0] 57))
  have HF1 : Hid (BoxF ((w.alloc (Obj.cells #[.pointer (some ⟨m, 0, none⟩)] 46)).alloc (Obj.cells #[.int .i64 0, .int .u64 0] 57)) (w.heap.size + 1) 0 0) := by
    have := BoxF.new (w.alloc (Obj.cells #[.pointer (some ⟨m, 0, none⟩)] 46)) 0 0
    rw [World.size_alloc] at this
    exact this
  refine (HPk.out _ HB1.out).mono ?_
  rintro e w1 ⟨x, b, ho, rfl, hm1, hk1⟩
  have HO := Lib.hid ho
  have HM1 := Lib.hid hm1
  have HK1 := Lib.hid ((Keeps.of_below (S := fun j => j = m) HB1.out).trans hk1 (fun _ _ e => e))
  have HF2 := Lib.hid (HF1.out.keeps hk1 (show ¬ w.heap.size + 1 = m by omega))
  have hl1 := HF2.out.lt
  clear ho hm1 hk1 HPk
  obtain ⟨q, hq⟩ : ∃ q : Nat, (if b = true then (30 : Int) else 0) = (q : Int) := by
    cases b
    · exact ⟨0, rfl⟩
    · exact ⟨30, rfl⟩
  rw [hq]
  have HQ := Lib.hid hq
  obtain ⟨N1, hN1⟩ : ∃ N1 : Int, (if b = true then (0 : Int) else (N : Int)) = N1 := ⟨_, rfl⟩
  rw [hN1]
  have HN1 := Lib.hid hN1
  clear hq hN1
  unfold FaultV
  go_upto_region 2 with fail
  obtain ⟨W2, hW2⟩ : ∃ W2, w1.alloc (Obj.cells #[.int .i64 (q : Int), .int .u64 x] 41) = W2 := ⟨_, rfl⟩
  have HB2 : Hid (Below w1.heap.size w1 W2) := hW2 ▸ (Below.refl _ _).alloc (Nat.le_refl _) _
  have HG2 : Hid (BoxG W2 w1.heap.size (q : Int) x) := hW2 ▸ BoxG.new w1 (q : Int) x
  rw [hW2]
  clear hW2
  obtain ⟨g0, g1, _, _⟩ := HG2.out.cells
  have HTo2 := Lib.hid (HTo.out W2 q x)
  clear HTo
  go_wp2_with fail
  refine HTo2.out.mono ?_
  rintro e w3 ⟨rfl, hb3⟩
  have HB3 : Hid (Below w1.heap.size w1 w3) := HB2.out.trans (hb3.mono HB2.out.size)
  clear hb3 HTo2
  have HF3 := Lib.hid (HF2.out.below HB3.out)
  obtain ⟨x0, x1, f0, f1⟩ := HF3.out.cells
  go_wp2_with fail
  obtain ⟨d0, d1, _⟩ := (HF3.out.set (q : Int) x).cells
  refine bodyPost_ret (v := .tuple #[.int .u64 N1, .agg #[.int .i64 (q : Int), .int .u64 x]]) (by simp [results, Tryz.results142, go_sem, d0, d1]) rfl ?_
  have hk2 := Keeps.two w3 (w.heap.size + 1) (.int .i64 (q : Int)) (.int .u64 x)
  refine ⟨x, b, HO.out, ?_, (HM1.out.below HB3.out).keeps hk2 (fun j hj e => by have := HM.out.mine_lt hj; omega), (HK1.out.trans (Keeps.of_below (S := fun _ => False) HB3.out) (fun _ _ h => h.elim)).trans hk2 (fun i hi e => by omega)⟩
  rw [HN1.out, HQ.out]
  rfl
set_option maxRecDepth 100000 in
set_option maxHeartbeats 4000000 in
theorem tload_any {w w0 : World} {m base : Nat} {vr vd vp : Value} {ps : List (Int × Nat)} {M : Nat → Nat} {rs ds : List Sp} {L S n a k : Nat} (h : Tx w m w0 base vr vd vp ps M rs ds L S n) (ha : a ≤ 18446744073709551615) (hw : Wide k) (hn : n ≤ 4611686018427387904) (hL : L ≤ 4611686018427387904) :
    Calls Tryz.prog 141 #[.agg #[.pointer (some ⟨m, 0, none⟩)], .int .u64 (a : Int), .int .i64 (k : Int)] w fun e w' => ∃ x b, OffR (rs ++ ds) a k x b ∧ e = .returned (.tuple #[.int .u64 (if b then 0 else (Pl.num 8 (rdTo M a 8 k) : Nat) : Int), FaultV (if b then 30 else 0) x]) ∧ Tx w' m w0 base vr vd vp ps M rs ds (L + if b then 0 else 1) S (up b n) ∧ Keeps (fun j => j = m) w w' := by
  have hml := h.lt
  have HM := Lib.hid h
  have HPk : Hid (∀ W, Below w.heap.size w W → Calls Tryz.prog 48 #[.pointer (some ⟨m, 0, none⟩), .int .u64 (a : Int), .int .i64 (k : Int)] W fun e w' => ∃ x b, OffR (rs ++ ds) a k x b ∧ e = .returned (.tuple #[.int .u64 (if b then 0 else (Pl.num 8 (rdTo M a 8 k) : Nat) : Int), FaultV (if b then 30 else 0) x]) ∧ Tx w' m w0 base vr vd vp ps M rs ds (L + if b then 0 else 1) S (up b n) ∧ Keeps (fun j => j = m) W w') := fun W hW => by
    obtain ⟨h4, h5, h6, h7, h8, h9, h10⟩ := h.below hW
    refine (rload_at h4 hw (h6.below h5 (Nat.le_refl _)) (h7.below h5 (Nat.le_refl _)) h8 h9 ha hn hL).mono ?_
    rintro e w' ⟨x, b, ho, rfl, hm, hk⟩
    exact ⟨x, b, ho, rfl, ⟨hm, below_keeps h5 hk (fun j e => by rw [show j = m from e]; exact Nat.le_trans h10 h4.1), h6, h7, h8, h9, h10⟩, hk⟩
  have HTo := Lib.hid told_any
  generalize Pl.num 8 (rdTo M a 8 k) = N at *
  clear h
  go_enter Tryz.func141, Tryz.ntmps141
  go_wp2_with fail
  have HB1 := Lib.hid (((Below.refl w.heap.size w).alloc (Nat.le_refl _) (Obj.cells #[.pointer (some ⟨m, 0, none⟩)] 46)).alloc (by simp) (Obj.cells #[.int .i64 0, .int .u64 0] 57))
  have HF1 : Hid (BoxF ((w.alloc (Obj.cells #[.pointer (some ⟨m, 0, none⟩)] 46)).alloc (Obj.cells #[.int .i64 0, .int .u64 0] 57)) (w.heap.size + 1) 0 0) := by
    have := BoxF.new (w.alloc (Obj.cells #[.pointer (some ⟨m, 0, none⟩)] 46)) 0 0
    rw [World.size_alloc] at this
    exact this
  refine (HPk.out _ HB1.out).mono ?_
  rintro e w1 ⟨x, b, ho, rfl, hm1, hk1⟩
  have HO := Lib.hid ho
  have HM1 := Lib.hid hm1
  have HK1 := Lib.hid ((Keeps.of_below (S := fun j => j = m) HB1.out).trans hk1 (fun _ _ e => e))
  have HF2 := Lib.hid (HF1.out.keeps hk1 (show ¬ w.heap.size + 1 = m by omega))
  have hl1 := HF2.out.lt
  clear ho hm1 hk1 HPk
  obtain ⟨q, hq⟩ : ∃ q : Nat, (if b = true then (30 : Int) else 0) = (q : Int) := by
    cases b
    · exact ⟨0, rfl⟩
    · exact ⟨30, rfl⟩
  rw [hq]
  have HQ := Lib.hid hq
  obtain ⟨N1, hN1⟩ : ∃ N1 : Int, (if b = true then (0 : Int) else (N : Int)) = N1 := ⟨_, rfl⟩
  rw [hN1]
  have HN1 := Lib.hid hN1
  clear hq hN1
  unfold FaultV
  go_upto_region 2 with fail
  obtain ⟨W2, hW2⟩ : ∃ W2, w1.alloc (Obj.cells #[.int .i64 (q : Int), .int .u64 x] 41) = W2 := ⟨_, rfl⟩
  have HB2 : Hid (Below w1.heap.size w1 W2) := hW2 ▸ (Below.refl _ _).alloc (Nat.le_refl _) _
  have HG2 : Hid (BoxG W2 w1.heap.size (q : Int) x) := hW2 ▸ BoxG.new w1 (q : Int) x
  rw [hW2]
  clear hW2
  obtain ⟨g0, g1, _, _⟩ := HG2.out.cells
  have HTo2 := Lib.hid (HTo.out W2 q x)
  clear HTo
  go_wp2_with fail
  refine HTo2.out.mono ?_
  rintro e w3 ⟨rfl, hb3⟩
  have HB3 : Hid (Below w1.heap.size w1 w3) := HB2.out.trans (hb3.mono HB2.out.size)
  clear hb3 HTo2
  have HF3 := Lib.hid (HF2.out.below HB3.out)
  obtain ⟨x0, x1, f0, f1⟩ := HF3.out.cells
  go_wp2_with fail
  obtain ⟨d0, d1, _⟩ := (HF3.out.set (q : Int) x).cells
  refine bodyPost_ret (v := .tuple #[.int .u64 N1, .agg #[.int .i64 (q : Int), .int .u64 x]]) (by simp [results, Tryz.results141, go_sem, d0, d1]) rfl ?_
  have hk2 := Keeps.two w3 (w.heap.size + 1) (.int .i64 (q : Int)) (.int .u64 x)
  refine ⟨x, b, HO.out, ?_, (HM1.out.below HB3.out).keeps hk2 (fun j hj e => by have := HM.out.mine_lt hj; omega), (HK1.out.trans (Keeps.of_below (S := fun _ => False) HB3.out) (fun _ _ h => h.elim)).trans hk2 (fun i hi e => by omega)⟩
  rw [HN1.out, HQ.out]
  rfl
/-- what the tape's Store does -/
def TStP (w : World) (m : Nat) (w0 : World) (base : Nat) (vr vd vp : Value) (ps : List (Int × Nat)) (M : Nat → Nat) (rs ds : List Sp) (L S n a k val : Nat) (e : Ending) (w' : World) : Prop :=
  ∃ x b, OffR (rs ++ ds) a k x b ∧ e = .returned (FaultV (if b then 30 else 0) x) ∧ (b = true → Tx w' m w0 base vr vd vp ps M rs ds L S (n + 1) ∧ Kf m vp ps w vp ps w') ∧ (b = false → ∃ vp' ps', Tx w' m w0 base vr vd vp' ps' (putAt M a ((Pl.le 8 val).take k)) rs ds L (S + 1) n ∧ Kf m vp ps w vp' ps' w' ∧ ps'.map Prod.fst = addN (ps.map Prod.fst) a k)
theorem TStP.later {w1 w w' w2 w0 : World} {m base : Nat} {vr vd vp : Value} {ps : List (Int × Nat)} {M : Nat → Nat} {rs ds : List Sp} {L S n a k val g : Nat} {e : Ending} (h : TStP w m w0 base vr vd vp ps M rs ds L S n a k val e w') (hw : Below w1.heap.size w1 w) (hm : Tx w1 m w0 base vr vd vp ps M rs ds L S n) (hk : Keeps (fun j => j = g) w' w2) (hg : w1.heap.size ≤ g) (hg2 : g < w.heap.size) : TStP w1 m w0 base vr vd vp ps M rs ds L S n a k val e w2 := by
  obtain ⟨x, b, ho, he, h1, h2⟩ := h
  have hno : ∀ j, Mt w0 m vp ps j → ¬ j = g := fun j hj e => by have := hm.mine_lt hj; omega
  refine ⟨x, b, ho, he, fun e => ⟨(h1 e).1.keeps hk hno, ((Kf.below hw).trans (h1 e).2).after hk (fun j hj e => by omega)⟩, fun e => ?_⟩
  obtain ⟨vp', ps', r1, r2, r3⟩ := h2 e
  refine ⟨vp', ps', r1.keeps hk (fun j hj e => ?_), ((Kf.below hw).trans r2).after hk (fun j hj e => by omega), r3⟩
  rcases hj with hj | hj
  · rcases r2.grown j hj with hj | hj
    · exact hno j (.inl hj) e
    · omega
  · exact hno j (.inr hj) e
set_option maxRecDepth 100000 in
set_option maxHeartbeats 4000000 in
theorem tstore_any {w w0 : World} {m base : Nat} {vr vd vp : Value} {ps : List (Int × Nat)} {M : Nat → Nat} {rs ds : List Sp} {L S n a k val : Nat} (h : Tx w m w0 base vr vd vp ps M rs ds L S n) (ha : a ≤ 18446744073709551615) (hw : Wide k) (hn : n ≤ 4611686018427387904) (hS : S ≤ 4611686018427387904) (hbw : base ≤ w.heap.size) :
    Calls Tryz.prog 143 #[.agg #[.pointer (some ⟨m, 0, none⟩)], .int .u64 (a : Int), .int .i64 (k : Int), .int .u64 (val : Int)] w (TStP w m w0 base vr vd vp ps M rs ds L S n a k val) := by
  have hml := h.lt
  have HM := Lib.hid h
  have HPk : Hid (∀ W, Below w.heap.size w W → Calls Tryz.prog 11 #[.pointer (some ⟨m, 0, none⟩), .int .u64 (a : Int), .int .i64 (k : Int), .int .u64 (val : Int)] W (TStP W m w0 base vr vd vp ps M rs ds L S n a k val)) := fun W hW => by
    obtain ⟨h4, h5, h6, h7, h8, h9, h10⟩ := h.below hW
    refine (rstore_f (val := val) h4 hw (Nat.le_trans hbw hW.size) (h6.below h5 (Nat.le_refl _)) (h7.below h5 (Nat.le_refl _)) h8 h9 ha hn hS).mono ?_
    rintro e w' ⟨x, b, ho, rfl, r1, r2⟩
    have hb5 : ∀ vp' ps', Kf m vp ps W vp' ps' w' → Below w0.heap.size w0 w' := fun _ _ hk => below_keeps h5 hk.keeps (fun j e => Nat.le_trans h10 (h4.fo e).1)
    refine ⟨x, b, ho, rfl, fun e => ⟨⟨(r1 e).1, hb5 _ _ (r1 e).2, h6, h7, h8, h9, h10⟩, (r1 e).2⟩, fun e => ?_⟩
    obtain ⟨vp', ps', q1, q2, q3⟩ := r2 e
    exact ⟨vp', ps', ⟨q1, hb5 _ _ q2, h6, h7, h8, h9, h10⟩, q2, q3⟩
  have HTo := Lib.hid told_any
  clear h
  go_enter Tryz.func143, Tryz.ntmps143
  go_wp2_with fail
  have HB1 := Lib.hid (((Below.refl w.heap.size w).alloc (Nat.le_refl _) (Obj.cells #[.pointer (some ⟨m, 0, none⟩)] 46)).alloc (by simp) (Obj.cells #[.int .i64 0, .int .u64 0] 57))
  have HF1 : Hid (BoxF ((w.alloc (Obj.cells #[.pointer (some ⟨m, 0, none⟩)] 46)).alloc (Obj.cells #[.int .i64 0, .int .u64 0] 57)) (w.heap.size + 1) 0 0) := by
    have := BoxF.new (w.alloc (Obj.cells #[.pointer (some ⟨m, 0, none⟩)] 46)) 0 0
    rw [World.size_alloc] at this
    exact this
  have hl1 := HF1.out.lt
  refine (HPk.out _ HB1.out).mono ?_
  intro e w1 hP
  have HP := Lib.hid hP
  generalize (w.alloc (Obj.cells #[.pointer (some ⟨m, 0, none⟩)] 46)).alloc (Obj.cells #[.int .i64 0, .int .u64 0] 57) = Wa at *
  obtain ⟨x, b, ho, rfl, h1, h2⟩ := hP
  have HKk : Hid (∀ j, w.heap.size ≤ j → j < Wa.heap.size → w1.heap[j]? = Wa.heap[j]? ∧ Wa.heap.size ≤ w1.heap.size) := fun j hj hj2 => by
    have hn : ¬ Fo m vp ps j := fun e => by have := HM.out.mine_lt (.inl e); omega
    cases b with
    | true => exact ⟨(h1 rfl).2.keeps.block j hj2 hn, (h1 rfl).2.keeps.size⟩
    | false =>
      obtain ⟨_, _, _, r2, _⟩ := h2 rfl
      exact ⟨r2.keeps.block j hj2 hn, r2.keeps.size⟩
  have HF2 : Hid (BoxF w1 (w.heap.size + 1) 0 0) := ((HKk.out (w.heap.size + 1) (by omega) hl1).1).trans HF1.out
  clear ho h1 h2 HPk HKk
  obtain ⟨q, hq⟩ : ∃ q : Nat, (if b = true then (30 : Int) else 0) = (q : Int) := by
    cases b
    · exact ⟨0, rfl⟩
    · exact ⟨30, rfl⟩
  rw [hq] at HP ⊢
  clear hq
  unfold FaultV
  have HTo2 := Lib.hid (HTo.out w1 q x)
  clear HTo
  go_wp2_with fail
  refine HTo2.out.mono ?_
  rintro e w3 ⟨rfl, hb3⟩
  have HB3 := Lib.hid hb3
  clear hb3 HTo2
  have HF3 := Lib.hid (HF2.out.below HB3.out)
  obtain ⟨x0, x1, f0, f1⟩ := HF3.out.cells
  go_wp2_with fail
  obtain ⟨d0, d1, _⟩ := (HF3.out.set (q : Int) x).cells
  refine bodyPost_ret (v := .agg #[.int .i64 (q : Int), .int .u64 x]) (by simp [results, Tryz.results143, go_sem, d0, d1]) rfl ?_
  have hk2 : Keeps (fun j => j = w.heap.size + 1) w1 _ := (Keeps.of_below (S := fun j => j = w.heap.size + 1) HB3.out).trans (Keeps.two w3 (w.heap.size + 1) (.int .i64 (q : Int)) (.int .u64 x)) (fun _ _ e => e)
  exact HP.out.later HB1.out HM.out hk2 (by omega) hl1
end Go.Proofs.YtdkhhofgfbnmkaaGreat
/- look, leaf, address over the tape. Own work. -/
namespace Go.Proofs.YtdkhhofgfbnmkaaGreat
open Go.RowKit Go.Maps Go.Proofs.YtdkhhofgfbnmkaaGreat.Sp Wk
set_option maxRecDepth 100000 in
set_option maxHeartbeats 4000000 in
theorem look_t {w : World} {w0 : World} {m base : Nat} {vr vd vp : Value} {ps : List (Int × Nat)} {M : Nat → Nat} {rs ds : List Sp} {L S X t k : Nat} {l : Int} (h : Tx w m w0 base vr vd vp ps M rs ds L S X) (ht : t + 8 * k ≤ 18446744073709551615) (hX : X ≤ 4611686018427387904) :
    Calls Tryz.prog 91 #[MemT m, .int .u64 (t : Int), .int .u64 (k : Int), .int .i64 l] w fun e w' => ∃ r b, e = .returned (.tuple #[EntV r.1, .int .i64 r.2]) ∧ LookR (rs ++ ds) M (t + 8 * k) l r b ∧ Tx w' m w0 base vr vd vp ps M rs ds L S (up b X) ∧ Keeps (fun j => j = m) w w' := by
  have HM : Hid (Tx w m w0 base vr vd vp ps M rs ds L S X) := h
  clear h
  have hme : ∀ (w : World) (p : Value), (method 319 46 (.agg #[p]) "Peek").run Tryz.prog w = .ok (142, .agg #[p]) w := fun _ _ => by kernel_rfl
  obtain ⟨a, ha⟩ : ∃ a, a = t + 8 * k := ⟨_, rfl⟩
  have hai : (t : Int) + 8 * (k : Int) = (a : Int) := by omega
  have HPk : Hid (∀ W, Below w.heap.size w W → Calls Tryz.prog 142 #[.agg #[.pointer (some ⟨m, 0, none⟩)], .int .u64 (a : Int), .int .i64 8] W fun e w' => ∃ x b, OffR (rs ++ ds) a 8 x b ∧ e = .returned (.tuple #[.int .u64 (if b then 0 else (Pl.num 8 (rdTo M a 8 8) : Nat) : Int), FaultV (if b then 30 else 0) x]) ∧ Tx w' m w0 base vr vd vp ps M rs ds L S (up b X) ∧ Keeps (fun j => j = m) W w') := fun W hW => tpeek_any (HM.out.below hW) (by omega) (.inr (.inr (.inr rfl))) hX
  have HEn : Hid (∀ e : Nat, e < 18446744073709551616 → ∀ W, Calls Tryz.prog 110 #[.int .u64 (e : Int), .int .i64 l] W (EntPost W (entB e l))) := fun e he W => entry_any he l W
  rw [← ha]
  clear ha
  unfold MemT
  go_enter Tryz.func91, Tryz.ntmps91
  go_wp2_with fail
  refine (HPk.out _ ((Below.refl _ _).alloc (Nat.le_refl _) _)).mono ?_
  rintro e w1 ⟨x, b, ho, rfl, hm1, hk1⟩
  have hml := HM.out.lt
  have HOff : Hid (OffR (rs ++ ds) a 8 x b) := ho
  have HX1 : Hid (BoxE w1 w.heap.size no) := (BoxE.new w no).keeps hk1 (by omega)
  have HM1 : Hid (Tx w1 m w0 base vr vd vp ps M rs ds L S (up b X)) := hm1
  have HK1 : Hid (Keeps (fun j => j = m) w w1) := (Keeps.alloc (S := fun j => j = m) w _).trans hk1 (fun _ _ e => e)
  have hne : w.heap.size ≠ w1.heap.size := Nat.ne_of_lt HX1.out.lt
  have hlt1 := HX1.out.lt
  clear ho hm1 hk1 HPk
  unfold FaultV
  cases b with
  | true =>
    simp only [if_true]
    obtain ⟨W2, hW2⟩ : ∃ W2, w1.alloc (Obj.cells #[.int .i64 30, .int .u64 x] 57) = W2 := ⟨_, rfl⟩
    have HF2 : Hid (BoxF W2 w1.heap.size 30 x) := hW2 ▸ BoxF.new w1 30 x
    have HX2 : Hid (BoxE W2 w.heap.size no) := hW2 ▸ HX1.out.below ((Below.refl _ _).alloc (Nat.le_refl _) _)
    have HB2 : Hid (Below w1.heap.size w1 W2) := hW2 ▸ (Below.refl _ _).alloc (Nat.le_refl _) _
    obtain ⟨y0, y1, _, _⟩ := HF2.out.cells
    obtain ⟨x0, x1, x2, x3, x4⟩ := HX2.out.cells
    have f0 := HX2.out.frozen 0
    have f1 := HX2.out.frozen 1
    have f2 := HX2.out.frozen 2
    have f3 := HX2.out.frozen 3
    have f4 := HX2.out.frozen 4
    go_wp2_with fail
    obtain ⟨d0, d1, d2, d3, d4⟩ := (HX2.out.put no).cells
    refine (fun (h : bodyPost _ _ _ _ _ (putE W2 w.heap.size no)) => h) ?_
    refine bodyPost_ret (v := .tuple #[EntV no, .int .i64 42]) (by simp [results, Tryz.results91, go_sem, EntV, d0, d1, d2, d3, d4]) rfl ?_
    exact ⟨(no, 42), true, rfl, ⟨x, HOff.out, rfl⟩, (HM1.out.below HB2.out).keeps (putE_keeps _ _ _) (fun j hj e => by have := HM.out.mine_lt hj; omega), (HK1.out.trans (Keeps.of_below (S := fun _ => False) HB2.out) (fun _ _ h => h.elim)).trans (putE_keeps _ _ _) (fun i hi e => absurd e (by omega))⟩
  | false =>
    simp only [Bool.false_eq_true, if_false]
    obtain ⟨num, hnum⟩ : ∃ num, num = Pl.num 8 (rdTo M a 8 8) := ⟨_, rfl⟩
    rw [← hnum]
    have HNum : Hid (num = Pl.num 8 (rdTo M a 8 8)) := hnum
    have hlt : num < 18446744073709551616 := by
      rw [hnum]
      exact Pl.acc_lt (rdTo_small HM.out.small _ _ _) 0 8
    clear hnum
    obtain ⟨W2, hW2⟩ : ∃ W2, w1.alloc (Obj.cells #[.int .i64 0, .int .u64 x] 57) = W2 := ⟨_, rfl⟩
    have HF2 : Hid (BoxF W2 w1.heap.size 0 x) := hW2 ▸ BoxF.new w1 0 x
    have HX2 : Hid (BoxE W2 w.heap.size no) := hW2 ▸ HX1.out.below ((Below.refl _ _).alloc (Nat.le_refl _) _)
    have HB2 : Hid (Below w1.heap.size w1 W2) := hW2 ▸ (Below.refl _ _).alloc (Nat.le_refl _) _
    obtain ⟨y0, y1, _, _⟩ := HF2.out.cells
    go_wp2_with fail
    refine (HEn.out num hlt _).mono ?_
    rintro e w2 ⟨rfl, hb2⟩
    have HX3 : Hid (BoxE w2 w.heap.size no) := HX2.out.below hb2
    have HB3 : Hid (Below W2.heap.size W2 w2) := hb2
    clear hb2
    obtain ⟨x0, x1, x2, x3, x4⟩ := HX3.out.cells
    have f0 := HX3.out.frozen 0
    have f1 := HX3.out.frozen 1
    have f2 := HX3.out.frozen 2
    have f3 := HX3.out.frozen 3
    have f4 := HX3.out.frozen 4
    obtain ⟨⟨⟨q0, q1, q2, q3, q4⟩, q5⟩, hq⟩ : ∃ q, q = entB num l := ⟨_, rfl⟩
    rw [← hq]
    unfold EntV
    go_wp2_with fail
    obtain ⟨d0, d1, d2, d3, d4⟩ := (HX3.out.put (q0, q1, q2, q3, q4)).cells
    refine (fun (h : bodyPost _ _ _ _ _ (putE w2 w.heap.size (q0, q1, q2, q3, q4))) => h) ?_
    refine bodyPost_ret (v := .tuple #[EntV (q0, q1, q2, q3, q4), .int .i64 q5]) (by simp [results, Tryz.results91, go_sem, EntV, d0, d1, d2, d3, d4]) rfl ?_
    refine ⟨((q0, q1, q2, q3, q4), q5), false, rfl, ⟨x, HOff.out, by rw [hq, HNum.out]; rfl⟩, ((HM1.out.below HB2.out).below HB3.out).keeps (putE_keeps _ _ _) (fun j hj e => by have := HM.out.mine_lt hj; omega), ((HK1.out.trans (Keeps.of_below (S := fun _ => False) HB2.out) (fun _ _ h => h.elim)).trans (Keeps.of_below (S := fun _ => False) HB3.out) (fun _ _ h => h.elim)).trans (putE_keeps _ _ _) (fun i hi e => absurd e (by omega))⟩
set_option maxRecDepth 100000 in
set_option maxHeartbeats 4000000 in
theorem leaf_t {w : World} {w0 : World} {m base : Nat} {vr vd vp : Value} {ps : List (Int × Nat)} {M : Nat → Nat} {rs ds : List Sp} {L S X t v : Nat} (h : Tx w m w0 base vr vd vp ps M rs ds L S X) (ht : t ≤ 18446744073709551615) (h4 : t % 4096 = 0) (hv : v ≤ 18446744073709551615) (hX : X ≤ 4611686018427387904) :
    Calls Tryz.prog 75 #[MemT m, .int .u64 (t : Int), .int .u64 (v : Int)] w fun e w' => ∃ r b, e = .returned (.tuple #[EntV r.1, .int .i64 r.2]) ∧ LeafR (rs ++ ds) M v 3 0 t r b ∧ Tx w' m w0 base vr vd vp ps M rs ds L S (up b X) ∧ Keeps (fun j => j = m) w w' := by
  have HM : Hid (Tx w m w0 base vr vd vp ps M rs ds L S X) := h
  clear h
  have HLk : Hid (∀ (W : World) (t k : Nat) (l : Int), Tx W m w0 base vr vd vp ps M rs ds L S X → t + 8 * k ≤ 18446744073709551615 → Calls Tryz.prog 91 #[MemT m, .int .u64 (t : Int), .int .u64 (k : Int), .int .i64 l] W fun e w' => ∃ r b, e = .returned (.tuple #[EntV r.1, .int .i64 r.2]) ∧ LookR (rs ++ ds) M (t + 8 * k) l r b ∧ Tx w' m w0 base vr vd vp ps M rs ds L S (up b X) ∧ Keeps (fun j => j = m) W w') := fun W t k l hW hk => look_t hW hk hX
  have HRe : Hid (∀ (l : Nat), l ≤ 2 → ∀ W, Calls Tryz.prog 92 #[.int .i64 (l : Int)] W fun e w' => e = .returned (.int .u64 (4096 * pgs l : Nat)) ∧ Below W.heap.size W w') := fun l hl W => reach_any hl W
  have hml := HM.out.lt
  obtain ⟨MV, hMV⟩ : ∃ MV, MV = MemT m := ⟨_, rfl⟩
  rw [← hMV] at HLk ⊢
  clear hMV
  go_enter Tryz.func75, Tryz.ntmps75
  go_wp2_with fail
  go_loopw [8, 9] (fun x y wr => ∃ (tt l : Nat), l ≤ 2 ∧ tt ≤ 18446744073709551615 ∧ tt % 4096 = 0 ∧ x = .int .u64 (tt : Int) ∧ y = .int .i64 (l : Int) ∧ Hid (Tx wr m w0 base vr vd vp ps M rs ds L S X) ∧ Hid (Keeps (fun j => j = m) w wr) ∧ Hid (BoxE wr w.heap.size no) ∧ Hid (∀ r b, LeafR (rs ++ ds) M v (3 - l) l tt r b → LeafR (rs ++ ds) M v 3 0 t r b)) (fun _ y _ => match y with | .int _ l => 3 - l.toNat | _ => 0)
  case atStart => exact ⟨t, 0, by omega, ht, h4, rfl, rfl, HM.out.below ((Below.refl _ _).alloc (Nat.le_refl _) _), Keeps.alloc (S := fun j => j = m) w _, BoxE.new w no, fun _ _ h => h⟩
  case round =>
    obtain ⟨tt, l, hl, htt, htt4, rfl, rfl, HMr, HKr, HXr, HLr⟩ := hrel
    have hDp : 0 < 4096 * pgs l := by rcases (show l = 0 ∨ l = 1 ∨ l = 2 by omega) with rfl | rfl | rfl <;> simp [pgs]
    obtain ⟨D, hD⟩ : ∃ D, D = 4096 * pgs l := ⟨_, rfl⟩
    have HD : Hid (D = 4096 * pgs l) := hD
    have hReach := HRe.out l hl
    rw [← hD] at hDp hReach
    have HRe' : Hid (∀ W, Calls Tryz.prog 92 #[.int .i64 (l : Int)] W fun e w' => e = .returned (.int .u64 (D : Int)) ∧ Below W.heap.size W w') := hReach
    clear hReach hD HRe
    go_wp2_with fail
    refine (HRe'.out _).mono ?_
    rintro e w1 ⟨rfl, hb1⟩
    have HB1 : Hid (Below wr.heap.size wr w1) := hb1
    clear hb1
    have hD0 : (D : Int) ≠ 0 := by omega
    have hqv : v / D ≤ v := Nat.div_le_self _ _
    obtain ⟨q, hq⟩ : ∃ q, q = v / D := ⟨_, rfl⟩
    obtain ⟨k, hk⟩ : ∃ k, k = q % 512 := ⟨_, rfl⟩
    have HK : Hid (k = v / D % 512) := by show _ = _; rw [hk, hq]
    rw [← hq] at hqv
    have hw : IntKind.u64.wrap ((v : Int) / (D : Int)) = (q : Int) := by
      rw [← Int.natCast_ediv, ← hq]
      exact U64.wrap_in (by omega) (by omega)
    have hm : (q : Int).tmod 512 = (k : Int) := by
      rw [Int.tmod_eq_emod_of_nonneg (by omega), hk]
      omega
    have hk5 : k < 512 := by omega
    clear hk hq
    go_wp2_with fail
    clear hw hm hqv
    refine (HLk.out w1 tt k l (HMr.out.below HB1.out) (by omega)).mono ?_
    rintro e w2 ⟨⟨⟨q0, q1, q2, q3, q4⟩, q5⟩, b, rfl, hr, hm2, hk2⟩
    have HR : Hid (LookR (rs ++ ds) M (tt + 8 * k) l ((q0, q1, q2, q3, q4), q5) b) := hr
    have HM2 : Hid (Tx w2 m w0 base vr vd vp ps M rs ds L S (up b X)) := hm2
    have HK2 : Hid (Keeps (fun j => j = m) w w2) := (HKr.out.trans (Keeps.of_below (S := fun _ => False) HB1.out) (fun _ _ h => h.elim)).trans hk2 (fun _ _ e => e)
    have HX2 : Hid (BoxE w2 w.heap.size no) := (HXr.out.below HB1.out).keeps hk2 (by omega)
    clear hr hm2 hk2
    obtain ⟨W3, hW3⟩ : ∃ W3, w2.alloc (Obj.cells #[.int .u64 (q0 : Int), .bool q1, .bool q2, .bool q3, .bool q4] 104) = W3 := ⟨_, rfl⟩
    have HE3 : Hid (BoxE W3 w2.heap.size (q0, q1, q2, q3, q4)) := hW3 ▸ BoxE.new w2 (q0, q1, q2, q3, q4)
    have HX3 : Hid (BoxE W3 w.heap.size no) := hW3 ▸ HX2.out.below ((Below.refl _ _).alloc (Nat.le_refl _) _)
    have HB3 : Hid (Below w2.heap.size w2 W3) := hW3 ▸ (Below.refl _ _).alloc (Nat.le_refl _) _
    have hlt := HX2.out.lt
    have hne : w.heap.size ≠ w2.heap.size := Nat.ne_of_lt hlt
    obtain ⟨y0, y1, y2, y3, y4⟩ := HE3.out.cells
    obtain ⟨x0, x1, x2, x3, x4⟩ := HX3.out.cells
    have f0 := HX3.out.frozen 0
    have f1 := HX3.out.frozen 1
    have f2 := HX3.out.frozen 2
    have f3 := HX3.out.frozen 3
    have f4 := HX3.out.frozen 4
    unfold EntV
    have HEnd : Hid (∀ r b, (r.2 ≠ 0 ∨ r.1.2.1 = false) → LookR (rs ++ ds) M (tt + 8 * k) l r b → LeafR (rs ++ ds) M v 3 0 t r b) := fun r b hc hr => HLr.out r b (by
      rw [show 3 - l = (2 - l) + 1 by omega]
      exact ⟨r, b, by rw [← HD.out, ← HK.out]; exact hr, .inl ⟨hc, rfl, rfl⟩⟩)
    by_cases hq5 : q5 = 0
    · subst hq5
      cases q1 with
      | false =>
        go_wp2_with fail
        obtain ⟨d0, d1, d2, d3, d4⟩ := (HX3.out.put (q0, false, q2, q3, q4)).cells
        refine (fun (h : bodyPost _ _ _ _ _ (putE W3 w.heap.size (q0, false, q2, q3, q4))) => h) ?_
        refine bodyPost_ret (v := .tuple #[EntV (q0, false, q2, q3, q4), .int .i64 0]) (by simp [results, Tryz.results75, go_sem, EntV, d0, d1, d2, d3, d4]) rfl ?_
        exact ⟨((q0, false, q2, q3, q4), 0), b, rfl, HEnd.out _ _ (.inr rfl) HR.out, (HM2.out.below HB3.out).keeps (putE_keeps _ _ _) (fun j hj e => by have := HM.out.mine_lt hj; omega), (HK2.out.trans (Keeps.of_below (S := fun _ => False) HB3.out) (fun _ _ h => h.elim)).trans (putE_keeps _ _ _) (fun i hi e => absurd e (by omega))⟩
      | true =>
        obtain ⟨rfl, hl2, hq0, hq4⟩ := look_table HR.out
        go_wp2_with fail
        refine ⟨⟨q0, l + 1, by omega, hq0, hq4, rfl, rfl, HM2.out.below HB3.out, HK2.out.trans (Keeps.of_below (S := fun _ => False) HB3.out) (fun _ _ h => h.elim), HX3.out, fun r b hr => HLr.out r b ?_⟩, by show _ < _; simp; omega⟩
        rw [show 3 - l = (3 - (l + 1)) + 1 by omega]
        exact ⟨_, _, by rw [← HD.out, ← HK.out]; exact HR.out, .inr ⟨rfl, rfl, hr⟩⟩
    · go_wp2_with fail
      obtain ⟨d0, d1, d2, d3, d4⟩ := (HX3.out.put (q0, q1, q2, q3, q4)).cells
      refine (fun (h : bodyPost _ _ _ _ _ (putE W3 w.heap.size (q0, q1, q2, q3, q4))) => h) ?_
      refine bodyPost_ret (v := .tuple #[EntV (q0, q1, q2, q3, q4), .int .i64 q5]) (by simp [results, Tryz.results75, go_sem, EntV, d0, d1, d2, d3, d4]) rfl ?_
      exact ⟨((q0, q1, q2, q3, q4), q5), b, rfl, HEnd.out _ _ (.inl hq5) HR.out, (HM2.out.below HB3.out).keeps (putE_keeps _ _ _) (fun j hj e => by have := HM.out.mine_lt hj; omega), (HK2.out.trans (Keeps.of_below (S := fun _ => False) HB3.out) (fun _ _ h => h.elim)).trans (putE_keeps _ _ _) (fun i hi e => absurd e (by omega))⟩
def AddrT (w : World) (m : Nat) (w0 : World) (base : Nat) (vr vd vp : Value) (ps : List (Int × Nat)) (M : Nat → Nat) (rs ds : List Sp) (L S X t v : Nat) (acc : Int) (e : Ending) (w' : World) : Prop :=
  ∃ (r : Nat × Int) (b : Bool), e = .returned (.tuple #[.int .u64 (r.1 : Int), .int .i64 r.2]) ∧ AddrR (rs ++ ds) M t v acc r b ∧ Tx w' m w0 base vr vd vp ps M rs ds L S (up b X) ∧ Keeps (fun j => j = m) w w'
set_option maxRecDepth 100000 in
set_option maxHeartbeats 8000000 in
theorem address_t {w : World} {w0 : World} {m base : Nat} {vr vd vp : Value} {ps : List (Int × Nat)} {M : Nat → Nat} {rs ds : List Sp} {L S X t v : Nat} {acc : Int} (h : Tx w m w0 base vr vd vp ps M rs ds L S X) (ht : t ≤ 18446744073709551615) (hv : v ≤ 18446744073709551615) (hX : X ≤ 4611686018427387904) :
    Calls Tryz.prog 43 #[MemT m, .int .u64 (t : Int), .int .u64 (v : Int), .int .i64 acc] w (AddrT w m w0 base vr vd vp ps M rs ds L S X t v acc) := by
  have HM : Hid (Tx w m w0 base vr vd vp ps M rs ds L S X) := h
  clear h
  have HLf : Hid (t % 4096 = 0 → Calls Tryz.prog 75 #[MemT m, .int .u64 (t : Int), .int .u64 (v : Int)] w fun e w' => ∃ r b, e = .returned (.tuple #[EntV r.1, .int .i64 r.2]) ∧ LeafR (rs ++ ds) M v 3 0 t r b ∧ Tx w' m w0 base vr vd vp ps M rs ds L S (up b X) ∧ Keeps (fun j => j = m) w w') := fun h4 => leaf_t HM.out ht h4 hv hX
  have hml := HM.out.lt
  have HS : Hid (∀ r, AddrR (rs ++ ds) M t v acc r false → ∃ (r' : Nat × Int) (b : Bool), (Ending.returned (.tuple #[.int .u64 (r.1 : Int), .int .i64 r.2])) = .returned (.tuple #[.int .u64 (r'.1 : Int), .int .i64 r'.2]) ∧ AddrR (rs ++ ds) M t v acc r' b ∧ Tx w m w0 base vr vd vp ps M rs ds L S (up b X) ∧ Keeps (fun j => j = m) w w) := fun r hr => ⟨r, false, rfl, hr, HM.out, Keeps.refl _ _⟩
  obtain ⟨t4, ht4⟩ : ∃ t4, t4 = t % 4096 := ⟨_, rfl⟩
  obtain ⟨vb, hvb⟩ : ∃ vb, vb = v % 2097152 := ⟨_, rfl⟩
  obtain ⟨vpg, hvp⟩ : ∃ vpg, vpg = v % 4096 := ⟨_, rfl⟩
  have HT4 : Hid (t4 = t % 4096) := ht4
  have HVb : Hid (vb = v % 2097152) := hvb
  have HVp : Hid (vpg = v % 4096) := hvp
  have e4 : (t : Int).tmod 4096 = (t4 : Int) := by rw [Int.tmod_eq_emod_of_nonneg (by omega), ht4]; omega
  have eb : (v : Int).tmod 2097152 = (vb : Int) := by rw [Int.tmod_eq_emod_of_nonneg (by omega), hvb]; omega
  have ep : (v : Int).tmod 4096 = (vpg : Int) := by rw [Int.tmod_eq_emod_of_nonneg (by omega), hvp]; omega
  have lb : vb < 2097152 := by omega
  have lp : vpg < 4096 := by omega
  clear ht4 hvb hvp
  unfold MemT at HLf ⊢
  obtain ⟨vi, hvi⟩ : ∃ vi : Int, vi = (v : Int) := ⟨_, rfl⟩
  rw [← hvi] at HLf eb ep ⊢
  have HVi : Hid (vi = (v : Int)) := hvi
  have hvi0 : 0 ≤ vi := by omega
  have hvi1 : vi ≤ 18446744073709551615 := by omega
  clear hvi hv
  go_enter Tryz.func43, Tryz.ntmps43
  by_cases hacc : acc ≠ 1 ∧ acc ≠ 2 ∧ acc ≠ 3
  · obtain ⟨h1, h2, h3⟩ := hacc
    have b1 : (acc != 1) = true := by simpa using h1
    have b2 : (acc != 2) = true := by simpa using h2
    have b3 : (acc != 3) = true := by simpa using h3
    go_wp2_with fail
    refine bodyPost_ret (v := .tuple #[.int .u64 ((0 : Nat) : Int), .int .i64 1]) (by simp [results, Tryz.results43, go_sem]) rfl ?_
    exact HS.out (0, 1) (by unfold AddrR; rw [if_pos ⟨h1, h2, h3⟩]; exact ⟨rfl, rfl⟩)
  · have hac : acc = 1 ∨ acc = 2 ∨ acc = 3 := by omega
    by_cases hvm : 549755813888 ≤ v
    · have HAll : Hid (AddrR (rs ++ ds) M t v acc (0, 40) false) := by show AddrR _ _ _ _ _ _ _; unfold AddrR; rw [if_neg hacc, if_pos hvm]; exact ⟨rfl, rfl⟩
      have hvm' : 549755813888 ≤ vi := by have := HVi.out; omega
      clear hacc hvm
      rcases hac with rfl | rfl | rfl
      all_goals
        go_wp2_with fail
        refine bodyPost_ret (v := .tuple #[.int .u64 ((0 : Nat) : Int), .int .i64 40]) (by simp [results, Tryz.results43, go_sem]) rfl ?_
        exact HS.out (0, 40) HAll.out
    · by_cases h4 : t4 = 0
      · have HAll : Hid (∀ e r b, LeafR (rs ++ ds) M v 3 0 t e b → r = addrB e acc v → AddrR (rs ++ ds) M t v acc r b) := fun e r b he hr => by
          unfold AddrR
          rw [if_neg hacc, if_neg hvm, if_neg (by rw [← HT4.out]; omega)]
          exact ⟨e, he, hr⟩
        have hvm' : vi < 549755813888 := by have := HVi.out; omega
        clear hacc HS hvm
        subst h4
        rcases hac with rfl | rfl | rfl
        · go_wp2_with fail
          refine (HLf.out HT4.out.symm).mono ?_
          rintro e w1 ⟨⟨⟨q0, q1, q2, q3, q4⟩, q5⟩, b, rfl, hr, hm1, hk1⟩
          have HR : Hid (LeafR (rs ++ ds) M v 3 0 t ((q0, q1, q2, q3, q4), q5) b) := hr
          have hq0 : q0 ≤ 4294963200 := leaf_frame hr
          have HM1 : Hid (Tx w1 m w0 base vr vd vp ps M rs ds L S (up b X)) := hm1
          have HK1 : Hid (Keeps (fun j => j = m) w w1) := hk1
          clear hr hm1 hk1 HLf
          obtain ⟨W2, hW2⟩ : ∃ W2, w1.alloc (Obj.cells #[.int .u64 (q0 : Int), .bool q1, .bool q2, .bool q3, .bool q4] 104) = W2 := ⟨_, rfl⟩
          have HE2 : Hid (BoxE W2 w1.heap.size (q0, q1, q2, q3, q4)) := hW2 ▸ BoxE.new w1 (q0, q1, q2, q3, q4)
          have HB2 : Hid (Below w1.heap.size w1 W2) := hW2 ▸ (Below.refl _ _).alloc (Nat.le_refl _) _
          have HZ : Hid (∀ r : Nat × Int, r = addrB ((q0, q1, q2, q3, q4), q5) 1 v → AddrT w m w0 base vr vd vp ps M rs ds L S X t v 1 (.returned (.tuple #[.int .u64 (r.1 : Int), .int .i64 r.2])) W2) := fun r hr => ⟨r, b, rfl, HAll.out _ _ _ HR.out hr, HM1.out.below HB2.out, HK1.out.trans (Keeps.of_below (S := fun _ => False) HB2.out) (fun _ _ h => h.elim)⟩
          obtain ⟨y0, y1, y2, y3, y4⟩ := HE2.out.cells
          have z4 := HE2.out.frozen 4
          unfold EntV
          by_cases hq5 : q5 = 0
          · subst hq5
            cases q2 with
            | true =>
              go_wp2_with fail
              refine bodyPost_ret (v := .tuple #[.int .u64 ((q0 : Int) + (vb : Int)), .int .i64 0]) (by simp [results, Tryz.results43, go_sem]) rfl ?_
              exact HZ.out (q0 + vb, 0) (by simp [addrB, HVb.out])
            | false =>
              go_wp2_with fail
              refine bodyPost_ret (v := .tuple #[.int .u64 ((q0 : Int) + (vpg : Int)), .int .i64 0]) (by simp [results, Tryz.results43, go_sem]) rfl ?_
              exact HZ.out (q0 + vpg, 0) (by simp [addrB, HVp.out])
          · go_wp2_with fail
            refine bodyPost_ret (v := .tuple #[.int .u64 ((0 : Nat) : Int), .int .i64 q5]) (by simp [results, Tryz.results43, go_sem]) rfl ?_
            exact HZ.out (0, q5) (by simp [addrB, hq5])
        · go_wp2_with fail
          refine (HLf.out HT4.out.symm).mono ?_
          rintro e w1 ⟨⟨⟨q0, q1, q2, q3, q4⟩, q5⟩, b, rfl, hr, hm1, hk1⟩
          have HR : Hid (LeafR (rs ++ ds) M v 3 0 t ((q0, q1, q2, q3, q4), q5) b) := hr
          have hq0 : q0 ≤ 4294963200 := leaf_frame hr
          have HM1 : Hid (Tx w1 m w0 base vr vd vp ps M rs ds L S (up b X)) := hm1
          have HK1 : Hid (Keeps (fun j => j = m) w w1) := hk1
          clear hr hm1 hk1 HLf
          obtain ⟨W2, hW2⟩ : ∃ W2, w1.alloc (Obj.cells #[.int .u64 (q0 : Int), .bool q1, .bool q2, .bool q3, .bool q4] 104) = W2 := ⟨_, rfl⟩
          have HE2 : Hid (BoxE W2 w1.heap.size (q0, q1, q2, q3, q4)) := hW2 ▸ BoxE.new w1 (q0, q1, q2, q3, q4)
          have HB2 : Hid (Below w1.heap.size w1 W2) := hW2 ▸ (Below.refl _ _).alloc (Nat.le_refl _) _
          have HZ : Hid (∀ r : Nat × Int, r = addrB ((q0, q1, q2, q3, q4), q5) 2 v → AddrT w m w0 base vr vd vp ps M rs ds L S X t v 2 (.returned (.tuple #[.int .u64 (r.1 : Int), .int .i64 r.2])) W2) := fun r hr => ⟨r, b, rfl, HAll.out _ _ _ HR.out hr, HM1.out.below HB2.out, HK1.out.trans (Keeps.of_below (S := fun _ => False) HB2.out) (fun _ _ h => h.elim)⟩
          obtain ⟨y0, y1, y2, y3, y4⟩ := HE2.out.cells
          have z4 := HE2.out.frozen 4
          unfold EntV
          by_cases hq5 : q5 = 0
          · subst hq5
            cases q3 with
            | false =>
              go_wp2_with fail
              refine bodyPost_ret (v := .tuple #[.int .u64 ((0 : Nat) : Int), .int .i64 43]) (by simp [results, Tryz.results43, go_sem]) rfl ?_
              exact HZ.out (0, 43) (by simp [addrB])
            | true =>
              cases q2 with
              | true =>
                go_wp2_with fail
                refine bodyPost_ret (v := .tuple #[.int .u64 ((q0 : Int) + (vb : Int)), .int .i64 0]) (by simp [results, Tryz.results43, go_sem]) rfl ?_
                exact HZ.out (q0 + vb, 0) (by simp [addrB, HVb.out])
              | false =>
                go_wp2_with fail
                refine bodyPost_ret (v := .tuple #[.int .u64 ((q0 : Int) + (vpg : Int)), .int .i64 0]) (by simp [results, Tryz.results43, go_sem]) rfl ?_
                exact HZ.out (q0 + vpg, 0) (by simp [addrB, HVp.out])
          · go_wp2_with fail
            refine bodyPost_ret (v := .tuple #[.int .u64 ((0 : Nat) : Int), .int .i64 q5]) (by simp [results, Tryz.results43, go_sem]) rfl ?_
            exact HZ.out (0, q5) (by simp [addrB, hq5])
        · go_wp2_with fail
          refine (HLf.out HT4.out.symm).mono ?_
          rintro e w1 ⟨⟨⟨q0, q1, q2, q3, q4⟩, q5⟩, b, rfl, hr, hm1, hk1⟩
          have HR : Hid (LeafR (rs ++ ds) M v 3 0 t ((q0, q1, q2, q3, q4), q5) b) := hr
          have hq0 : q0 ≤ 4294963200 := leaf_frame hr
          have HM1 : Hid (Tx w1 m w0 base vr vd vp ps M rs ds L S (up b X)) := hm1
          have HK1 : Hid (Keeps (fun j => j = m) w w1) := hk1
          clear hr hm1 hk1 HLf
          obtain ⟨W2, hW2⟩ : ∃ W2, w1.alloc (Obj.cells #[.int .u64 (q0 : Int), .bool q1, .bool q2, .bool q3, .bool q4] 104) = W2 := ⟨_, rfl⟩
          have HE2 : Hid (BoxE W2 w1.heap.size (q0, q1, q2, q3, q4)) := hW2 ▸ BoxE.new w1 (q0, q1, q2, q3, q4)
          have HB2 : Hid (Below w1.heap.size w1 W2) := hW2 ▸ (Below.refl _ _).alloc (Nat.le_refl _) _
          have HZ : Hid (∀ r : Nat × Int, r = addrB ((q0, q1, q2, q3, q4), q5) 3 v → AddrT w m w0 base vr vd vp ps M rs ds L S X t v 3 (.returned (.tuple #[.int .u64 (r.1 : Int), .int .i64 r.2])) W2) := fun r hr => ⟨r, b, rfl, HAll.out _ _ _ HR.out hr, HM1.out.below HB2.out, HK1.out.trans (Keeps.of_below (S := fun _ => False) HB2.out) (fun _ _ h => h.elim)⟩
          obtain ⟨y0, y1, y2, y3, y4⟩ := HE2.out.cells
          have z4 := HE2.out.frozen 4
          unfold EntV
          by_cases hq5 : q5 = 0
          · subst hq5
            cases q4 with
            | false =>
              go_wp2_with fail
              refine bodyPost_ret (v := .tuple #[.int .u64 ((0 : Nat) : Int), .int .i64 44]) (by simp [results, Tryz.results43, go_sem]) rfl ?_
              exact ⟨(0, 44), b, rfl, HAll.out _ _ _ HR.out (by simp [addrB]), (HM1.out.below HB2.out).keeps (Keeps.setCell _ w1.heap.size _ _) (fun j hj e => by have := HM.out.mine_lt hj; have := HK1.out.size; omega), (HK1.out.trans (Keeps.of_below (S := fun _ => False) HB2.out) (fun _ _ h => h.elim)).trans (Keeps.setCell _ w1.heap.size _ _) (fun i hi e => absurd e (by have := HK1.out.size; omega))⟩
            | true =>
              cases q2 with
              | true =>
                go_wp2_with fail
                refine bodyPost_ret (v := .tuple #[.int .u64 ((q0 : Int) + (vb : Int)), .int .i64 0]) (by simp [results, Tryz.results43, go_sem]) rfl ?_
                exact HZ.out (q0 + vb, 0) (by simp [addrB, HVb.out])
              | false =>
                go_wp2_with fail
                refine bodyPost_ret (v := .tuple #[.int .u64 ((q0 : Int) + (vpg : Int)), .int .i64 0]) (by simp [results, Tryz.results43, go_sem]) rfl ?_
                exact HZ.out (q0 + vpg, 0) (by simp [addrB, HVp.out])
          · go_wp2_with fail
            refine bodyPost_ret (v := .tuple #[.int .u64 ((0 : Nat) : Int), .int .i64 q5]) (by simp [results, Tryz.results43, go_sem]) rfl ?_
            exact HZ.out (0, q5) (by simp [addrB, hq5])
      · have HAll : Hid (AddrR (rs ++ ds) M t v acc (0, 42) false) := by show AddrR _ _ _ _ _ _ _; unfold AddrR; rw [if_neg hacc, if_neg hvm, if_pos (by rw [← HT4.out]; exact h4)]; exact ⟨rfl, rfl⟩
        have hvm' : vi < 549755813888 := by have := HVi.out; omega
        clear hacc hvm
        rcases hac with rfl | rfl | rfl
        all_goals
          go_wp2_with fail
          refine bodyPost_ret (v := .tuple #[.int .u64 ((0 : Nat) : Int), .int .i64 42]) (by simp [results, Tryz.results43, go_sem]) rfl ?_
          exact HS.out (0, 42) HAll.out
end Go.Proofs.YtdkhhofgfbnmkaaGreat
