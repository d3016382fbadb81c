import Derived.Test.YtfnikcjcgneboaaGreatPk25
import Derived.Test.YtfnikcjcgneboaaGreatPk12
import Derived.Test.YtfnikcjcgneboaaGreatPk18
import Derived.Test.YtfnikcjcgneboaaGreatPk24
/- What Leaves tells, and where an address leads: over a memory that stays. Plain mathematics. Own work. -/
namespace Go.Proofs.YtfnikcjcgneboaaGreat.Lv
open Go.RowKit Go.Maps Go.Proofs.YtfnikcjcgneboaaGreat.Sp Wk
/-- what an entry of a level may say -/
def EOk (l : Nat) (r : Ent × Int) : Prop := (r.2 = 0 ∨ r.2 = 41 ∨ r.2 = 42) ∧ (r.2 ≠ 0 → r.1 = no) ∧ r.1.1 ≤ 4294963200 ∧ r.1.1 % 4096 = 0 ∧ (r.2 = 0 → r.1.2.1 = false → l ≠ 0 ∧ r.1.2.2.1 = decide (l = 1)) ∧ (l = 2 → r.1.2.1 = false)
theorem ent_ok (e : Nat) {l : Nat} (hl : l ≤ 2) : EOk l (entB e (l : Int)) := by
  unfold entB
  rw [if_neg (by omega)]
  split
  · exact ⟨.inr (.inl rfl), fun _ => rfl, by decide, by decide, fun h => absurd h (by simp), fun _ => rfl⟩
  · split
    · rename_i hs
      have hf : fr e ≤ 4294963200 ∧ fr e % 4096 = 0 := by unfold fr; omega
      refine ⟨.inl rfl, fun h => absurd rfl h, hf.1, hf.2, ?_, ?_⟩
      · intro _ ht
        have ht : ((l : Int) == 0 || ((l : Int) == 1 && !bit3 e)) = false := ht
        show l ≠ 0 ∧ bit3 e = decide (l = 1)
        rcases (show l = 0 ∨ l = 1 ∨ l = 2 by omega) with rfl | rfl | rfl
        · exact absurd ht (by simp)
        · refine ⟨by decide, ?_⟩
          simpa using ht
        · refine ⟨by decide, ?_⟩
          have : sound e 2 = true := hs
          unfold sound at this
          simp at this
          simpa using this.2
      · rintro rfl
        rfl
    · exact ⟨.inr (.inr rfl), fun _ => rfl, by decide, by decide, fun h => absurd h (by simp), fun _ => rfl⟩
theorem look_ok (rs : List Sp) (M : Nat → Nat) (a : Nat) {l : Nat} (hl : l ≤ 2) : EOk l (lookF rs M a (l : Int)) := by
  unfold lookF
  split
  · exact ent_ok _ hl
  · exact ⟨.inr (.inr rfl), fun _ => rfl, by decide, by decide, fun h => absurd h (by simp), fun _ => rfl⟩
theorem ent_no (e : Nat) (l : Int) (h : (entB e l).2 ≠ 0) : (entB e l).1.2.1 = false := by
  unfold entB at h ⊢
  split
  · rfl
  · split
    · rfl
    · split
      · rename_i h1 h2 h3
        rw [if_neg h1, if_neg h2, if_pos h3] at h
        exact absurd rfl h
      · rfl
theorem look_no (rs : List Sp) (M : Nat → Nat) (a l : Nat) (h : (lookF rs M a (l : Int)).2 ≠ 0) : (lookF rs M a (l : Int)).1.2.1 = false := by
  unfold lookF at h ⊢
  split
  · rename_i h1
    rw [if_pos h1] at h
    exact ent_no _ _ h
  · rfl
theorem rchP {l : Nat} (h : l ≤ 2) : 4096 * pgs l = rch l := by
  rcases (show l = 0 ∨ l = 1 ∨ l = 2 by omega) with rfl | rfl | rfl <;> rfl
theorem leafF_G (rs : List Sp) (M : Nat → Nat) (v : Nat) : ∀ n l t, n + l ≤ 3 → leafF rs M v n l t = leafG (fun a l => lookF rs M a (l : Int)) v n l t
  | 0, _, _, _ => rfl
  | n + 1, l, t, h => by
    rw [leafF, leafG, rchP (by omega), leafF_G rs M v n (l + 1) _ (by omega)]
/-- what is told where all is told -/
def Tells (rs : List Sp) (M : Nat → Nat) (root : Nat) (l : List Slt) : Prop := Cov EOk (fun v => leafF rs M v 3 0 root) 0 549755813888 l
theorem tells_of {rs : List Sp} {M : Nat → Nat} {root left : Nat} (hg : (allS (lkL (fun a l => lookF rs M a (l : Int))) ydL ctL root { s := [], left := left, go := true }).go = true) : Tells rs M root (allS (lkL (fun a l => lookF rs M a (l : Int))) ydL ctL root { s := [], left := left, go := true }).s := by
  obtain ⟨l, e, h⟩ := all_cov (P := EOk) (fun a l hl => look_ok rs M a hl) (look_no rs M) (fun a => (look_ok rs M a (Nat.le_refl 2)).2.2.2.2.2 rfl) root _ hg
  rw [e]
  exact h.congr fun v _ _ => leafF_G rs M v 3 0 root (by omega)
theorem tells_bad {rs : List Sp} {M : Nat → Nat} {root : Nat} {l : List Slt} (h : Tells rs M root l) (hr : root % 4096 = 0) {x : Slt} (hx : x ∈ l) {v : Nat} (h1 : x.1 ≤ v) (h2 : v < x.1 + rch x.2.1) (hw : x.2.2.2 ≠ 0) {acc : Int} (ha : acc = 1 ∨ acc = 2 ∨ acc = 3) : adrF rs M root v acc = (0, 42) := by
  have hi := h.inn x hx
  have hv := h.val x hx v h1 h2
  have : x.2.2.2 = 42 := by
    have := hi.2.2.2.2.2.2.1
    have := hi.2.2.2.2.2.1
    omega
  unfold adrF
  rw [if_neg (by omega), if_neg (by omega), if_neg (by omega)]
  have hv : leafF rs M v 3 0 root = x.2.2 := hv
  rw [hv]
  unfold addrB
  rw [if_pos hw, this]
theorem tells_at {rs : List Sp} {M : Nat → Nat} {root : Nat} {l : List Slt} (h : Tells rs M root l) (hr : root % 4096 = 0) {x : Slt} (hx : x ∈ l) {v : Nat} (h1 : x.1 ≤ v) (h2 : v < x.1 + rch x.2.1) (hw : x.2.2.2 = 0) {acc : Int} (ha : acc = 1 ∨ acc = 2 ∨ acc = 3) : adrF rs M root v acc = if acc = 2 ∧ x.2.2.1.2.2.2.1 = false then (0, 43) else if acc = 3 ∧ x.2.2.1.2.2.2.2 = false then (0, 44) else (x.2.2.1.1 + (v - x.1), 0) := by
  obtain ⟨i1, i2, i3, i4, i5, i6, i7⟩ := h.inn x hx
  have hv : leafF rs M v 3 0 root = x.2.2 := h.val x hx v h1 h2
  obtain ⟨k1, k2⟩ := i7.2.2.2.2.1 hw i5
  unfold adrF
  rw [if_neg (by omega), if_neg (by omega), if_neg (by omega), hv]
  unfold addrB
  rw [if_neg (by omega)]
  split
  · rfl
  · split
    · rfl
    · rcases (show x.2.1 = 1 ∨ x.2.1 = 2 by omega) with e | e
      · rw [e] at k2 i4 h2
        have : rch 1 = 2097152 := rfl
        rw [if_pos (by rw [k2]; decide)]
        rw [this] at i4 h2
        rw [show v % 2097152 = v - x.1 by omega]
      · rw [e] at k2 i4 h2
        have : rch 2 = 4096 := rfl
        rw [if_neg (by rw [k2]; decide)]
        rw [this] at i4 h2
        rw [show v % 4096 = v - x.1 by omega]
theorem tells_none {rs : List Sp} {M : Nat → Nat} {root : Nat} {l : List Slt} (h : Tells rs M root l) (hr : root % 4096 = 0) {v : Nat} (hv : v < 549755813888) (hn : ∀ x ∈ l, ¬ (x.1 ≤ v ∧ v < x.1 + rch x.2.1)) {acc : Int} (ha : acc = 1 ∨ acc = 2 ∨ acc = 3) : adrF rs M root v acc = (0, 41) := by
  have : (leafF rs M v 3 0 root).2 = 41 := by
    rcases h.all v (Nat.zero_le _) hv with e | ⟨x, hx, hh⟩
    · exact e
    · exact absurd hh (hn x hx)
  unfold adrF
  rw [if_neg (by omega), if_neg (by omega), if_neg (by omega)]
  unfold addrB
  rw [if_pos (by omega), this]
end Go.Proofs.YtfnikcjcgneboaaGreat.Lv
/- WalkLeaves: is an address translated as a leaf says? Own work. -/
namespace Go.Proofs.YtfnikcjcgneboaaGreat
open Go.RowKit Go.Maps Go.Proofs.YtfnikcjcgneboaaGreat.Sp Wk Lv
/-- how an address is translated within what was told -/
def MpR (LL : List Sp) (M : Nat → Nat) (root v0 ph a : Nat) (wt ex : Bool) (wy : Int) : Prop :=
  (wy ≠ 0 ∧ ∀ acc : Int, acc = 1 ∨ acc = 2 ∨ acc = 3 → adrF LL M root a acc = (0, 42)) ∨
  (wy = 0 ∧ adrF LL M root a 1 = (ph + (a - v0), 0) ∧ adrF LL M root a 2 = (if wt then (ph + (a - v0), 0) else (0, 43)) ∧ adrF LL M root a 3 = (if ex then (ph + (a - v0), 0) else (0, 44)))
set_option maxRecDepth 100000 in
set_option maxHeartbeats 4000000 in
theorem mapped_any {w : World} {m B : Nat} {V : Value × Value × Value} {T : Nat → Option Nat} {M : Nat → Nat} {rs ds : List Sp} {n root v0 ph a : Nat} {pg : Int} {bg wt ex : Bool} {wy : Int} (h : Mx w m B V T M rs ds n) (hroot : root ≤ 18446744073709551615) (ha : a < 549755813888) (hv : v0 ≤ a) (hph : ph ≤ 4294967295) (hn : n ≤ 4611686018427380000) (hc : MpR (rs ++ ds) M root v0 ph a wt ex wy) :
    Calls Tryz.prog 16 #[.pointer (some ⟨m, 0, none⟩), .int .u64 (root : Int), .agg #[.int .u64 (v0 : Int), .int .u64 (ph : Int), .int .i64 pg, .bool bg, .bool wt, .bool ex], .int .i64 wy, .int .u64 (a : Int)] w fun e w' => e = .returned (.bool true) ∧ Hid (Mx w' m B V T M rs ds (n + 3)) ∧ Hid (Keeps (fun j => j = m) w w') := by
  have HC := Lib.hid hc
  have HM := Lib.hid h
  clear h hc
  have HTr : Hid (∀ (acc : Int) (P A : Nat) (K : Int), adrF (rs ++ ds) M root a acc = (P, K) → A = whyAt K a → ∀ W q, Mx W m B V T M rs ds q → q ≤ 4611686018427387904 → Calls Tryz.prog 17 #[.iface 28 (.pointer (some ⟨m, 0, none⟩)), .int .u64 (root : Int), .int .u64 (a : Int), .int .i64 acc] W fun e w' => e = .returned (.tuple #[.int .u64 (P : Int), .agg #[.int .i64 K, .int .u64 (A : Int)]]) ∧ Hid (Mx w' m B V T M rs ds (q + 1)) ∧ Hid (Keeps (fun j => j = m) W w')) := fun acc P A K he hA W q hW hq => by
    refine (translate_any (t := root) (v := a) (acc := acc) hW hroot (by omega) hq).mono ?_
    rintro e w' ⟨rfl, h1, h2⟩
    rw [he, hA]
    exact ⟨rfl, h1, h2⟩
  have hlm := HM.out.lt
  have HB0 : Hid (Below w.heap.size w (w.alloc (Obj.cells #[.int .u64 (v0 : Int), .int .u64 (ph : Int), .int .i64 pg, .bool bg, .bool wt, .bool ex] 64))) := (Below.refl _ _).alloc (Nat.le_refl _) _
  have HL0 : Hid (BoxL (w.alloc (Obj.cells #[.int .u64 (v0 : Int), .int .u64 (ph : Int), .int .i64 pg, .bool bg, .bool wt, .bool ex] 64)) w.heap.size v0 ph pg bg wt ex) := heap_alloc_new w _
  obtain ⟨W0, hW0⟩ : ∃ W0, w.alloc (Obj.cells #[.int .u64 (v0 : Int), .int .u64 (ph : Int), .int .i64 pg, .bool bg, .bool wt, .bool ex] 64) = W0 := ⟨_, rfl⟩
  rw [hW0] at HB0 HL0
  have HM0 : Hid (Mx W0 m B V T M rs ds n) := HM.out.below HB0.out
  obtain ⟨P1, K1, P2, K2, P3, K3, he1, he2, he3, HD⟩ : ∃ (P1 : Nat) (K1 : Int) (P2 : Nat) (K2 : Int) (P3 : Nat) (K3 : Int), adrF (rs ++ ds) M root a 1 = (P1, K1) ∧ adrF (rs ++ ds) M root a 2 = (P2, K2) ∧ adrF (rs ++ ds) M root a 3 = (P3, K3) ∧ Hid ((wy ≠ 0 ∧ K1 = 42 ∧ K2 = 42 ∧ K3 = 42) ∨ (wy = 0 ∧ P1 = ph + (a - v0) ∧ K1 = 0 ∧ ((wt = true ∧ P2 = ph + (a - v0) ∧ K2 = 0) ∨ (wt = false ∧ K2 = 43)) ∧ ((ex = true ∧ P3 = ph + (a - v0) ∧ K3 = 0) ∨ (ex = false ∧ K3 = 44)))) := by
    refine ⟨(adrF (rs ++ ds) M root a 1).1, (adrF (rs ++ ds) M root a 1).2, (adrF (rs ++ ds) M root a 2).1, (adrF (rs ++ ds) M root a 2).2, (adrF (rs ++ ds) M root a 3).1, (adrF (rs ++ ds) M root a 3).2, rfl, rfl, rfl, ?_⟩
    rcases HC.out with ⟨h1, h2⟩ | ⟨h1, h2, h3, h4⟩
    · exact .inl ⟨h1, by rw [h2 1 (.inl rfl)], by rw [h2 2 (.inr (.inl rfl))], by rw [h2 3 (.inr (.inr rfl))]⟩
    · refine .inr ⟨h1, by rw [h2], by rw [h2], ?_, ?_⟩
      · cases wt
        · exact .inr ⟨rfl, by rw [h3]; rfl⟩
        · exact .inl ⟨rfl, by rw [h3]; rfl, by rw [h3]; rfl⟩
      · cases ex
        · exact .inr ⟨rfl, by rw [h4]; rfl⟩
        · exact .inl ⟨rfl, by rw [h4]; rfl, by rw [h4]; rfl⟩
  have HT1 := Lib.hid (HTr.out 1 P1 _ K1 he1 rfl)
  have HT2 := Lib.hid (HTr.out 2 P2 _ K2 he2 rfl)
  have HT3 := Lib.hid (HTr.out 3 P3 _ K3 he3 rfl)
  obtain ⟨A1, hA1⟩ : ∃ A1, A1 = whyAt K1 a := ⟨_, rfl⟩
  obtain ⟨A2, hA2⟩ : ∃ A2, A2 = whyAt K2 a := ⟨_, rfl⟩
  obtain ⟨A3, hA3⟩ : ∃ A3, A3 = whyAt K3 a := ⟨_, rfl⟩
  rw [← hA1] at HT1
  rw [← hA2] at HT2
  rw [← hA3] at HT3
  have HA1 := Lib.hid hA1
  have HA2 := Lib.hid hA2
  have HA3 := Lib.hid hA3
  clear he1 he2 he3 hA1 hA2 hA3 HTr HC HM
  go_enter Tryz.func16, Tryz.ntmps16
  go_upto_region 1 with fail
  clear hW0
  go_wp2_with fail
  refine (HT1.out _ _ HM0.out (by omega)).mono ?_
  rintro e w1 ⟨rfl, HM1, HK1⟩
  clear HM0 HT1
  have hz1 := HK1.out.size
  have hz0 : w.heap.size < W0.heap.size := HL0.out.lt
  have HL1 : Hid (BoxL w1 w.heap.size v0 ph pg bg wt ex) := (HK1.out.block _ HL0.out.lt (by omega)).trans HL0.out
  go_upto_region 2 with fail
  obtain ⟨W1, hW1⟩ : ∃ W1, w1.alloc (Obj.cells #[.int .i64 K1, .int .u64 (A1 : Int)] 68) = W1 := ⟨_, rfl⟩
  have HB1 : Hid (Below w1.heap.size w1 W1) := hW1 ▸ (Below.refl _ _).alloc (Nat.le_refl _) _
  have HF1 : Hid (BoxF W1 w1.heap.size K1 (A1 : Int)) := hW1 ▸ BoxF.new w1 K1 (A1 : Int)
  have HN1 : Hid (Mx W1 m B V T M rs ds (n + 1)) := HM1.out.below HB1.out
  have HQ1 : Hid (BoxL W1 w.heap.size v0 ph pg bg wt ex) := HL1.out.below HB1.out
  have hs1 : W1.heap.size = w1.heap.size + 1 := by rw [← hW1]; simp
  rw [hW1]
  clear hW1 HM1 HL1
  go_wp2_with fail
  refine (HT2.out _ _ HN1.out (by omega)).mono ?_
  rintro e w2 ⟨rfl, HM2, HK2⟩
  clear HN1 HT2
  have hz2 := HK2.out.size
  have HL2 : Hid (BoxL w2 w.heap.size v0 ph pg bg wt ex) := (HK2.out.block _ HQ1.out.lt (by omega)).trans HQ1.out
  have HG2 : Hid (BoxF w2 w1.heap.size K1 (A1 : Int)) := HF1.out.keeps HK2.out (by omega)
  go_upto_region 3 with fail
  obtain ⟨W2, hW2⟩ : ∃ W2, w2.alloc (Obj.cells #[.int .i64 K2, .int .u64 (A2 : Int)] 68) = W2 := ⟨_, rfl⟩
  have HB2 : Hid (Below w2.heap.size w2 W2) := hW2 ▸ (Below.refl _ _).alloc (Nat.le_refl _) _
  have HF2 : Hid (BoxF W2 w2.heap.size K2 (A2 : Int)) := hW2 ▸ BoxF.new w2 K2 (A2 : Int)
  have HN2 : Hid (Mx W2 m B V T M rs ds (n + 1 + 1)) := HM2.out.below HB2.out
  have HQ2 : Hid (BoxL W2 w.heap.size v0 ph pg bg wt ex) := HL2.out.below HB2.out
  have HH2 : Hid (BoxF W2 w1.heap.size K1 (A1 : Int)) := HG2.out.below HB2.out
  have hs2 : W2.heap.size = w2.heap.size + 1 := by rw [← hW2]; simp
  rw [hW2]
  clear hW2 HM2 HL2 HG2 HF1 HQ1
  go_wp2_with fail
  refine (HT3.out _ _ HN2.out (by omega)).mono ?_
  rintro e w3 ⟨rfl, HM3, HK3⟩
  clear HN2 HT3
  have hz3 := HK3.out.size
  go_upto_region 4 with fail
  obtain ⟨W3, hW3⟩ : ∃ W3, w3.alloc (Obj.cells #[.int .i64 K3, .int .u64 (A3 : Int)] 68) = W3 := ⟨_, rfl⟩
  have HB3 : Hid (Below w3.heap.size w3 W3) := hW3 ▸ (Below.refl _ _).alloc (Nat.le_refl _) _
  have HF3 : Hid (BoxF W3 w3.heap.size K3 (A3 : Int)) := hW3 ▸ BoxF.new w3 K3 (A3 : Int)
  have HN3 : Hid (Mx W3 m B V T M rs ds (n + 3)) := HM3.out.below HB3.out
  have HQ3 : Hid (BoxL W3 w.heap.size v0 ph pg bg wt ex) := BoxL.below ((HK3.out.block _ HQ2.out.lt (by omega)).trans HQ2.out) HB3.out
  have HH3 : Hid (BoxF W3 w1.heap.size K1 (A1 : Int)) := (HH2.out.keeps HK3.out (by omega)).below HB3.out
  have HG3 : Hid (BoxF W3 w2.heap.size K2 (A2 : Int)) := (HF2.out.keeps HK3.out (by omega)).below HB3.out
  rw [hW3]
  clear hW3
  have HK : Hid (Keeps (fun j => j = m) w W3) := (((((((Keeps.of_below (S := fun j => j = m) HB0.out).trans HK1.out (fun _ _ e => e)).trans (Keeps.of_below (S := fun _ => False) HB1.out) (fun _ _ e => e.elim)).trans HK2.out (fun _ _ e => e)).trans (Keeps.of_below (S := fun _ => False) HB2.out) (fun _ _ e => e.elim)).trans HK3.out (fun _ _ e => e)).trans (Keeps.of_below (S := fun _ => False) HB3.out) (fun _ _ e => e.elim))
  obtain ⟨a0, a1, _, _⟩ := HH3.out.cells
  obtain ⟨b0, b1, _, _⟩ := HG3.out.cells
  obtain ⟨c0, c1, _, _⟩ := HF3.out.cells
  obtain ⟨y0, y1, y2, y3, y4, y5⟩ := HQ3.out.cells
  have hb1 := HH3.out.lt
  have hb2 := HG3.out.lt
  have hb3 := HF3.out.lt
  clear HB0 HL0 HK1 HB1 HK2 HB2 HK3 HB3 HM3 HF2 HQ2 HH2 HQ3 HH3 HG3 HF3 hz0 hz1 hz2 hz3 hs1 hs2
  have hef := eqlF
  have hge : ∀ W x y a b c d, (eqGuard .eql 68 x y (.agg #[.int .i64 a, .int .u64 b]) (.agg #[.int .i64 c, .int .u64 d])).run Tryz.prog W = .ok () W := fun W x y a b c d => run_eqGuard_agg W _ _ _ _ _ _ guardF
  rcases HD.out with ⟨hw, rfl, rfl, rfl⟩ | ⟨rfl, rfl, rfl, h2, h3⟩
  · have e1 : A1 = a := HA1.out
    have e2 : A2 = a := HA2.out
    have e3 : A3 = a := HA3.out
    subst e1
    have e2 : A2 = A1 := e2
    have e3 : A3 = A1 := e3
    subst e2 e3
    have hwb : (wy != 0) = true := by simpa using hw
    clear HD HA1 HA2 HA3 hw
    go_wp2_with fail
    go_ret
    exact ⟨rfl, HN3.out.below ((Below.refl _ _).alloc (Nat.le_refl _) _), HK.out.trans (Keeps.alloc (S := fun _ => False) _ _) (fun _ _ e => e.elim)⟩
  · have e1 : A1 = 0 := HA1.out
    subst e1
    obtain ⟨d, hd⟩ : ∃ d : Nat, a - v0 = d := ⟨_, rfl⟩
    rw [hd] at h2 h3 ⊢
    have hdi : (a : Int) - (v0 : Int) = (d : Int) := by omega
    have hdl : d ≤ 549755813888 := by omega
    have hpd : ((ph + d : Nat) : Int) = (ph : Int) + (d : Int) := by omega
    rw [hpd]
    clear hd HA1 HD hef
    rcases h2 with ⟨rfl, rfl, rfl⟩ | ⟨rfl, rfl⟩ <;> rcases h3 with ⟨rfl, rfl, rfl⟩ | ⟨rfl, rfl⟩
    all_goals
      first
        | (have e2 : A2 = 0 := HA2.out; subst e2)
        | (have e2 : A2 = a := HA2.out; rw [e2] at b1 ⊢; clear e2)
      first
        | (have e3 : A3 = 0 := HA3.out; subst e3)
        | (have e3 : A3 = a := HA3.out; rw [e3] at c1 ⊢; clear e3)
      clear HA2 HA3
      have hef := eqlF
      try rw [hpd]
      go_wp2_with fail
      go_ret
      exact ⟨rfl, HN3, HK⟩
end Go.Proofs.YtfnikcjcgneboaaGreat
/- Leaves' iterator where whoever is told keeps rows that grow: what is kept. Own work. -/
namespace Go.Proofs.YtfnikcjcgneboaaGreat
open Go.RowKit Go.Shelf Wk Lv
/-- a block of a row of leaves, or of numbers of refusals -/
def RowO (o : Obj) : Prop := ∃ c t fr k n, o = .cells c t fr ∧ (t = 64 ∨ t = 65) ∧ c[0]? = some (.int k n)
def Rw (w : World) (k : Nat) : Prop := ∃ o, w.heap[k]? = some o ∧ RowO o
theorem Rw.lt {w : World} {k : Nat} (h : Rw w k) : k < w.heap.size := by
  obtain ⟨o, h, _⟩ := h
  exact (Array.getElem?_eq_some_iff.1 h).1
theorem not_rw {w : World} {k : Nat} {o : Obj} (h : w.heap[k]? = some o) (ho : ¬ RowO o) : ¬ Rw w k := by
  rintro ⟨o', h', h2⟩
  rw [h] at h'
  cases h'
  exact ho h2
theorem not_rowO_loop (r : Loop) : ¬ RowO (.loop r) := by
  rintro ⟨c, t, fr, k, n, h, _⟩
  cases h
theorem not_rowO_deferred {d : Option (List Deferred)} : ¬ RowO (.deferred d) := by
  rintro ⟨c, t, fr, k, n, h, _⟩
  cases h
theorem RecAt.notRw {W : World} {l : Nat} {r : Loop} {st : LoopState} {pe : Option Code} (h : RecAt W l r st pe) : ¬ Rw W l := not_rw h (not_rowO_loop _)
theorem LeftAt.notRw {w : World} {g n : Nat} (h : LeftAt w g n) : ¬ Rw w g := not_rw h (by
  rintro ⟨c, t, fr, k, n, h, ht, _⟩
  cases h
  rcases ht with ht | ht <;> cases ht)
theorem BoxS.notRw {w : World} {g virt : Nat} {lev : Int} {x : Ent} {why : Int} (h : BoxS w g virt lev x why) : ¬ Rw w g := not_rw h (by
  rintro ⟨c, t, fr, k, n, h, ht, _⟩
  cases h
  rcases ht with ht | ht <;> cases ht)
theorem notRw_cell {w : World} {g : Nat} {v : Value} (h : w.cell? ⟨g, 0, none⟩ = some v) (hv : ∀ k n, v ≠ .int k n) : ¬ Rw w g := by
  rintro ⟨o, ho, c, t, fr, k, n, rfl, _, hc⟩
  rw [cell_of_row _ _ _ _ _ _ ho, hc] at h
  injection h with h
  exact hv k n h.symm
/-- only blocks in S and rows changed -/
structure KeepsR (S : Nat → Prop) (w w' : World) : Prop where
  os : w'.os = w.os
  tape : w'.tape = w.tape
  output : w'.output = w.output
  size : w.heap.size ≤ w'.heap.size
  block : ∀ i, i < w.heap.size → ¬ S i → ¬ Rw w i → w'.heap[i]? = w.heap[i]?
theorem Keeps.r {S : Nat → Prop} {w w' : World} (h : Keeps S w w') : KeepsR S w w' := ⟨h.os, h.tape, h.output, h.size, fun i hi hn _ => h.block i hi hn⟩
theorem KeepsR.refl (S : Nat → Prop) (w : World) : KeepsR S w w := (Keeps.refl S w).r
theorem KeepsR.trans {S S' : Nat → Prop} {a b c : World} (h : KeepsR S a b) (k : KeepsR S' b c) (hS : ∀ i, i < a.heap.size → S' i → S i) : KeepsR S a c := by
  refine ⟨k.os.trans h.os, k.tape.trans h.tape, k.output.trans h.output, Nat.le_trans h.size k.size, fun i hi hn hr => ?_⟩
  have e := h.block i hi hn hr
  have hr2 : ¬ Rw b i := fun ⟨o, h1, h2⟩ => hr ⟨o, e ▸ h1, h2⟩
  exact (k.block i (Nat.lt_of_lt_of_le hi h.size) (fun h => hn (hS i hi h)) hr2).trans e
theorem KeepsR.mono {S S' : Nat → Prop} {a b : World} (h : KeepsR S a b) (hS : ∀ i, i < a.heap.size → S i → S' i) : KeepsR S' a b :=
  ⟨h.os, h.tape, h.output, h.size, fun i hi hn => h.block i hi (fun h => hn (hS i hi h))⟩
theorem KeepsR.of_below {S : Nat → Prop} {w w' : World} (h : Below w.heap.size w w') : KeepsR S w w' := (Keeps.of_below h).r
theorem KeepsR.putObj (w : World) (l : Nat) (o : Obj) : KeepsR (fun k => k = l) w (w.putObj l o) := (Keeps.putObj w l o).r
theorem KeepsR.alloc {S : Nat → Prop} (w : World) (o : Obj) : KeepsR S w (w.alloc o) := (Keeps.alloc w o).r
theorem KeepsR.back {Y : Nat → Prop} {w v : World} {l : Nat} {o : Obj} (h : KeepsR (fun k => Y k ∨ k = l) w v) (hw : w.heap[l]? = some o) : KeepsR Y w (v.putObj l o) := by
  have hl : l < w.heap.size := (Array.getElem?_eq_some_iff.1 hw).1
  refine ⟨h.os, h.tape, h.output, by simpa using h.size, fun k hk hn hr => ?_⟩
  by_cases e : k = l
  · subst e
    rw [World.putObj_heap_same (Nat.lt_of_lt_of_le hl h.size), hw]
  · rw [World.putObj_heap_other e]
    exact h.block k hk (fun hh => hh.elim hn e) hr
theorem KeepsR.cell' {Y : Nat → Prop} {w w' : World} {g : Nat} {v : Value} (hk : KeepsR Y w w') (h : w.cell? ⟨g, 0, none⟩ = some v) (hv : ∀ k n, v ≠ .int k n) (hn : ¬ Y g) : w'.cell? ⟨g, 0, none⟩ = some v := by
  have hb := hk.block g (World.block_lt_of_cell? w _ h) hn (notRw_cell h hv)
  unfold World.cell? at h ⊢
  dsimp only at h ⊢
  rw [hb]
  exact h
theorem RecAt.keepsR {Z : Nat → Prop} {W W' : World} {l : Nat} {r : Loop} {st : LoopState} {pe : Option Code} (h : RecAt W l r st pe) (hk : KeepsR Z W W') (hn : ¬ Z l) : RecAt W' l r st pe := (hk.block l h.lt hn h.notRw).trans h
theorem LeftAt.keepsR {Z : Nat → Prop} {w w' : World} {g n : Nat} (h : LeftAt w g n) (hk : KeepsR Z w w') (hn : ¬ Z g) : LeftAt w' g n := (hk.block g h.lt hn h.notRw).trans h
theorem BoxS.keepsR {Z : Nat → Prop} {w w' : World} {g virt : Nat} {lev : Int} {x : Ent} {why : Int} (h : BoxS w g virt lev x why) (hk : KeepsR Z w w') (hn : ¬ Z g) : BoxS w' g virt lev x why := (hk.block g h.lt hn h.notRw).trans h
/-- nothing below n changed, nor any row -/
structure BelowR (n : Nat) (w w' : World) : Prop where
  os : w'.os = w.os
  tape : w'.tape = w.tape
  output : w'.output = w.output
  size : w.heap.size ≤ w'.heap.size
  block : ∀ i, i < w.heap.size → (i < n ∨ Rw w i) → w'.heap[i]? = w.heap[i]?
theorem BelowR.of_below {n : Nat} {w w' : World} (h : Below w.heap.size w w') : BelowR n w w' := ⟨h.os, h.tape, h.output, h.size, fun i hi _ => h.block i hi⟩
theorem BelowR.of_keeps {n : Nat} {S : Nat → Prop} {w w' : World} (h : Keeps S w w') (hS : ∀ i, i < w.heap.size → S i → n ≤ i ∧ ¬ Rw w i) : BelowR n w w' :=
  ⟨h.os, h.tape, h.output, h.size, fun i hi hh => h.block i hi (fun hs => by
    obtain ⟨h1, h2⟩ := hS i hi hs
    rcases hh with hh | hh
    · omega
    · exact h2 hh)⟩
theorem BelowR.putObj {n : Nat} {w : World} {l : Nat} {o o' : Obj} (hl : n ≤ l) (h : w.heap[l]? = some o') (ho : ¬ RowO o') : BelowR n w (w.putObj l o) := BelowR.of_keeps (Keeps.putObj w l o) (fun i _ e => by
  have e : i = l := e
  subst e
  exact ⟨hl, not_rw h ho⟩)
theorem BelowR.recAt {n : Nat} {w : World} {l : Nat} {o : Obj} {r : Loop} {st : LoopState} {pe : Option Code} (hl : n ≤ l) (h : RecAt w l r st pe) : BelowR n w (w.putObj l o) := BelowR.putObj hl h (not_rowO_loop _)
theorem BelowR.alloc {n : Nat} (w : World) (o : Obj) : BelowR n w (w.alloc o) := BelowR.of_below ((Below.refl _ _).alloc (Nat.le_refl _) _)
namespace Lv
section
variable {σ : Type} {lk : σ → Nat → Nat → Nat → (Ent × Int) × σ} {yd : σ → Slt → σ} {ct : σ → Slt → Bool} {live : σ → Prop} {bud : σ → Nat}
/-- as many are left as must be, no more are told than may be, and whoever is told goes on -/
structure FineR (live : σ → Prop) (bud : σ → Nat) (L : Nat) (t : St σ) : Prop where
  pos : t.go = true → 1 ≤ t.left
  most : bud t.s + t.left ≤ L
  live : t.go = true → live t.s
structure LivesR (lk : σ → Nat → Nat → Nat → (Ent × Int) × σ) (yd : σ → Slt → σ) (ct : σ → Slt → Bool) (live : σ → Prop) (bud : σ → Nat) : Prop where
  ll : ∀ s a b c, live s → live (lk s a b c).2
  ly : ∀ s x, live s → ct s x = true → live (yd s x)
  bl : ∀ s a b c, bud (lk s a b c).2 ≤ bud s
  bY : ∀ s x, bud (yd s x) ≤ bud s + 1
theorem visit_finer (hL : LivesR lk yd ct live bud) {L : Nat} {t : St σ} (hgo : t.go = true) (h : FineR live bud L t) (y : Slt) : FineR live bud L (visitS yd ct t y) := by
  unfold visitS
  have := h.most
  have hp := h.pos hgo
  have hy := hL.bY t.s y
  split
  · exact ⟨fun e => by have e' := of_decide_eq_true e; show 1 ≤ t.left - 1; omega, by show bud t.s + (t.left - 1) ≤ L; omega, fun _ => h.live hgo⟩
  · refine ⟨fun e => ?_, by show bud (yd t.s y) + (t.left - 1) ≤ L; omega, fun e => ?_⟩
    · have e' : (ct t.s y && decide (1 < t.left)) = true := e
      rw [Bool.and_eq_true] at e'
      have := of_decide_eq_true e'.2
      show 1 ≤ t.left - 1
      omega
    · have e' : (ct t.s y && decide (1 < t.left)) = true := e
      rw [Bool.and_eq_true] at e'
      exact hL.ly _ _ (h.live hgo) e'.1
theorem aft_finer (hL : LivesR lk yd ct live bud) {L : Nat} {deep : Nat → Nat → Nat → St σ → St σ} (hd : ∀ a b c t, FineR live bud L t → FineR live bud L (deep a b c t)) {t : St σ} (hgo : t.go = true) (h : FineR live bud L t) (y : Slt) : FineR live bud L (aft yd ct deep t y) := by
  unfold aft
  split
  · exact hd _ _ _ _ (visit_finer hL hgo h y)
  · exact visit_finer hL hgo h y
theorem look_finer (hL : LivesR lk yd ct live bud) {L : Nat} {t : St σ} (h : FineR live bud L t) (a b c : Nat) : FineR live bud L { t with s := (lk t.s a b c).2 } :=
  ⟨h.pos, by have := hL.bl t.s a b c; have := h.most; show bud (lk t.s a b c).2 + t.left ≤ L; omega, fun e => hL.ll _ _ _ _ (h.live e)⟩
theorem tab_finer (hL : LivesR lk yd ct live bud) {L : Nat} {deep : Nat → Nat → Nat → St σ → St σ} (hd : ∀ a b c t, FineR live bud L t → FineR live bud L (deep a b c t)) (fr virt lev : Nat) {t : St σ} (h : FineR live bud L t) : ∀ i, FineR live bud L (tabN lk yd ct deep fr virt lev i t)
  | 0 => h
  | i + 1 => by
    have hi := tab_finer hL hd fr virt lev h i
    rw [tabN]
    split
    · rename_i hgo
      by_cases h41 : (lk (tabN lk yd ct deep fr virt lev i t).s fr i lev).1.2 = 41
      · rw [step_absent h41]
        exact look_finer hL hi _ _ _
      · rw [step_aft h41]
        refine aft_finer hL hd ?_ (look_finer hL hi _ _ _) _
        exact hgo
    · exact hi
theorem finer3 {L : Nat} (a b c : Nat) (t : St σ) (h : FineR live bud L t) : FineR live bud L (deep3 a b c t) := h
theorem finer2 (hL : LivesR lk yd ct live bud) {L : Nat} (a b c : Nat) (t : St σ) (h : FineR live bud L t) : FineR live bud L (deep2 lk yd ct a b c t) := tab_finer hL finer3 a b c h 512
theorem finer1 (hL : LivesR lk yd ct live bud) {L : Nat} (a b c : Nat) (t : St σ) (h : FineR live bud L t) : FineR live bud L (deep1 lk yd ct a b c t) := tab_finer hL (finer2 hL) a b c h 512
end
end Lv
end Go.Proofs.YtfnikcjcgneboaaGreat
