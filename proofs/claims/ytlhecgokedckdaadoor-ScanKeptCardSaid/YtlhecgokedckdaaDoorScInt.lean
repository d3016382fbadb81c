/- Scan: integer (made by gen_scint.py). -/
import Derived.Test.YtlhecgokedckdaaDoorScJump
namespace Go.Proofs.YtlhecgokedckdaaDoor
open Go.RowKit
def intV : Sc.Res Nat → Value
  | .ok n _ => .tuple #[.int .u64 (n : Int), .bool true]
  | .bad _ => .tuple #[.int .u64 0, .bool false]
namespace Sc
def DigAt (l : List Nat) (base n k : Nat) : Prop := integerF l = match digitsF base n (l.drop k) with | .bad j => .bad (k + j) | .ok m j => (suffixF m (l.drop (k + j))).shift (k + j)
def SufAt (l : List Nat) (n k : Nat) : Prop := integerF l = (suffixF n (l.drop k)).shift k
def EndAt (l : List Nat) (n k : Nat) : Prop := integerF l = if isW ((l.drop k).headD 0) then .bad k else .ok n k
def BadAt (l : List Nat) (k : Nat) : Prop := integerF l = .bad k
theorem headD_drop (zs : List Nat) (a k : Nat) : ((zs.drop a).drop k).headD 0 = zs.getD (a + k) 0 := by
  rw [List.drop_drop, List.getD_eq_getElem?_getD, ← List.head?_drop]
  cases zs.drop (a + k) <;> rfl
theorem drop_head {l : List Nat} {k : Nat} (h : (l.drop k).headD 0 ≠ 0) : l.drop k = (l.drop k).headD 0 :: l.drop (k + 1) := by
  cases e : l.drop k with
  | nil => rw [e] at h; exact absurd rfl h
  | cons b t =>
    rw [← List.drop_drop, e]
    rfl
theorem DigAt.stop {l : List Nat} {base n k : Nat} (h : DigAt l base n k) (hb : base ≤ value ((l.drop k).headD 0)) : SufAt l n k := by
  unfold DigAt at h
  unfold SufAt
  rw [h]
  cases e : l.drop k with
  | nil => simp [digitsF, e]
  | cons b t =>
    rw [e] at hb
    have hb' : base ≤ value b := hb
    simp [digitsF, hb', e]
theorem value_ne {base b : Nat} (hb : ¬ base ≤ value b) (h16 : base ≤ 16) : b ≠ 0 := by
  rintro rfl
  rw [value_zero] at hb
  omega
theorem DigAt.over {l : List Nat} {base n k : Nat} (h : DigAt l base n k) (h16 : base ≤ 16) (hb : ¬ base ≤ value ((l.drop k).headD 0)) (ho : over n base (value ((l.drop k).headD 0)) = true) : BadAt l k := by
  have e := drop_head (value_ne hb h16)
  unfold DigAt at h
  rw [e] at h
  simp only [digitsF, if_neg hb, ho, if_true] at h
  exact h
theorem DigAt.more {l : List Nat} {base n k : Nat} (h : DigAt l base n k) (h16 : base ≤ 16) (hb : ¬ base ≤ value ((l.drop k).headD 0)) (ho : Sc.over n base (value ((l.drop k).headD 0)) = false) : DigAt l base (n * base + value ((l.drop k).headD 0)) (k + 1) := by
  have e := drop_head (value_ne hb h16)
  unfold DigAt at h ⊢
  rw [h]
  conv => lhs; rw [e]
  simp only [digitsF, if_neg hb, ho, Bool.false_eq_true, if_false]
  cases digitsF base (n * base + value ((l.drop k).headD 0)) (l.drop (k + 1)) with
  | bad j => simp only [Res.shift]; congr 1; omega
  | ok m j =>
    simp only [Res.shift]
    rw [show k + (1 + j) = k + 1 + j by omega]
theorem SufAt.one {l : List Nat} {n k : Nat} (h : SufAt l n k) (hu : unit ((l.drop k).headD 0) = 1) : EndAt l n k := by
  unfold SufAt at h
  unfold EndAt
  rw [h]
  unfold suffixF
  rw [if_pos hu]
  split <;> rfl
theorem SufAt.over {l : List Nat} {n k : Nat} (h : SufAt l n k) (hu : unit ((l.drop k).headD 0) ≠ 1) (ho : Sc.over n (unit ((l.drop k).headD 0)) 0 = true) : BadAt l k := by
  unfold SufAt at h
  unfold BadAt
  rw [h]
  unfold suffixF
  rw [if_neg hu, if_pos ho]
  rfl
theorem SufAt.more {l : List Nat} {n k : Nat} (h : SufAt l n k) (hu : unit ((l.drop k).headD 0) ≠ 1) (ho : Sc.over n (unit ((l.drop k).headD 0)) 0 = false) : EndAt l (n * unit ((l.drop k).headD 0) + 0) (k + 1) := by
  unfold SufAt at h
  unfold EndAt
  rw [h]
  unfold suffixF
  rw [if_neg hu, if_neg (by rw [ho]; decide), List.drop_drop, Nat.add_zero]
  split <;> rfl
theorem EndAt.bad {l : List Nat} {n k : Nat} (h : EndAt l n k) (hw : isW ((l.drop k).headD 0) = true) : BadAt l k := by
  unfold EndAt at h
  rw [if_pos hw] at h
  exact h
theorem EndAt.ok {l : List Nat} {n k : Nat} (h : EndAt l n k) (hw : isW ((l.drop k).headD 0) = false) : integerF l = .ok n k := by
  unfold EndAt at h
  rw [if_neg (by rw [hw]; decide)] at h
  exact h
theorem DigAt.begin {l : List Nat} (h : isHex l = false) : DigAt l 10 0 0 := by
  unfold DigAt integerF tailF
  rw [if_neg (by rw [h]; decide), List.drop_zero]
  cases digitsF 10 0 l with
  | bad j => simp
  | ok m j => simp
theorem DigAt.hex {l : List Nat} (h : isHex l = true) (hv : ¬ 16 ≤ value ((l.drop 2).headD 0)) : DigAt l 16 0 2 := by
  unfold DigAt integerF tailF
  rw [if_pos h, if_neg hv]
  cases digitsF 16 0 (l.drop 2) with
  | bad j => simp [Res.shift]
  | ok m j =>
    simp only [List.drop_drop]
    cases suffixF m (l.drop (2 + j)) <;> simp only [Res.shift, Nat.add_assoc]
theorem BadAt.hex {l : List Nat} (h : isHex l = true) (hv : 16 ≤ value ((l.drop 2).headD 0)) : BadAt l 2 := by
  unfold BadAt integerF
  rw [if_pos h, if_pos hv]
end Sc
theorem over_fits {n t d : Nat} (hd : d ≤ Sc.top) (h : Sc.over n t d = false) : n * t + d ≤ Sc.top := by
  have h1 : n ≤ (Sc.top - d) / t := by
    have := of_decide_eq_false h
    omega
  have h2 : n * t ≤ (Sc.top - d) / t * t := Nat.mul_le_mul_right t h1
  have h3 := Nat.div_mul_le_self (Sc.top - d) t
  omega
/-- the frame of integer -/
def IntFr (p n base : Nat) (a : Act) : Prop := ∃ u : Nat → Value, a = { tmps := #[.pointer (some ⟨p, 0, none⟩), u 1, u 2, u 3, .int .u64 (n : Int), .int .u64 (base : Int), u 6, u 7, u 8, u 9, u 10, u 11, u 12, u 13, u 14, u 15, u 16, u 17, u 18, u 19, u 20, u 21, u 22, u 23, u 24, u 25, u 26, u 27, u 28, u 29, u 30, u 31, u 32, u 33, u 34, u 35, u 36, u 37, u 38, u 39, u 40, u 41, u 42, u 43, u 44, u 45, u 46, u 47, u 48, u 49, u 50, u 51, u 52, u 53, u 54, u 55, u 56, u 57, u 58, u 59, u 60, u 61, u 62, u 63, u 64, u 65, u 66, u 67, u 68], defers := [] }
theorem IntFr.mk {p n base : Nat} {T : Array Value} (h : T = #[.pointer (some ⟨p, 0, none⟩), T.getD 1 undef, T.getD 2 undef, T.getD 3 undef, .int .u64 (n : Int), .int .u64 (base : Int), T.getD 6 undef, T.getD 7 undef, T.getD 8 undef, T.getD 9 undef, T.getD 10 undef, T.getD 11 undef, T.getD 12 undef, T.getD 13 undef, T.getD 14 undef, T.getD 15 undef, T.getD 16 undef, T.getD 17 undef, T.getD 18 undef, T.getD 19 undef, T.getD 20 undef, T.getD 21 undef, T.getD 22 undef, T.getD 23 undef, T.getD 24 undef, T.getD 25 undef, T.getD 26 undef, T.getD 27 undef, T.getD 28 undef, T.getD 29 undef, T.getD 30 undef, T.getD 31 undef, T.getD 32 undef, T.getD 33 undef, T.getD 34 undef, T.getD 35 undef, T.getD 36 undef, T.getD 37 undef, T.getD 38 undef, T.getD 39 undef, T.getD 40 undef, T.getD 41 undef, T.getD 42 undef, T.getD 43 undef, T.getD 44 undef, T.getD 45 undef, T.getD 46 undef, T.getD 47 undef, T.getD 48 undef, T.getD 49 undef, T.getD 50 undef, T.getD 51 undef, T.getD 52 undef, T.getD 53 undef, T.getD 54 undef, T.getD 55 undef, T.getD 56 undef, T.getD 57 undef, T.getD 58 undef, T.getD 59 undef, T.getD 60 undef, T.getD 61 undef, T.getD 62 undef, T.getD 63 undef, T.getD 64 undef, T.getD 65 undef, T.getD 66 undef, T.getD 67 undef, T.getD 68 undef]) : IntFr p n base { tmps := T, defers := [] } := ⟨fun i => T.getD i undef, congrArg (fun t => ({ tmps := t, defers := [] } : Act)) h⟩
/-- the cutter while integer goes on -/
def IntI (w : World) (p : Nat) (v : Value) (zs : List Nat) (lv : Value) (a : Nat) (wr : World) (k : Nat) : Prop := a + k ≤ zs.length ∧ CutB wr p v (a + k) lv ∧ Keeps (fun k => k = p) w wr
theorem IntI.below {w : World} {p : Nat} {v : Value} {zs : List Nat} {lv : Value} {a : Nat} {wr wr' : World} {k : Nat} (h : IntI w p v zs lv a wr k) (hb : Below wr.heap.size wr wr') : IntI w p v zs lv a wr' k :=
  ⟨h.1, h.2.1.below hb, h.2.2.trans (Keeps.of_below (S := fun _ => False) hb) (fun _ _ e => e.elim)⟩
theorem IntI.move {w : World} {p : Nat} {v : Value} {zs : List Nat} {lv : Value} {a : Nat} {wr : World} {k : Nat} (h : IntI w p v zs lv a wr k) (j : Nat) (hj : a + (k + j) ≤ zs.length) : IntI w p v zs lv a (wr.setCell ⟨p, 1, none⟩ (.int .i64 ((a + (k + j) : Nat) : Int))) (k + j) :=
  ⟨hj, h.2.1.move _, h.2.2.trans (Keeps.setCell _ p 1 _) (fun _ _ e => e)⟩
/-- what holds at each jump -/
def IntJ (w : World) (p : Nat) (v : Value) (zs : List Nat) (lv : Value) (a : Nat) (l : Nat) (ac : Act) (wr : World) : Prop :=
  ∃ k n base, IntFr p n base ac ∧ IntI w p v zs lv a wr k ∧
    ((l = 2 ∧ (base = 10 ∨ base = 16) ∧ n ≤ Sc.top ∧ Sc.DigAt (zs.drop a) base n k) ∨ (l = 1 ∧ n ≤ Sc.top ∧ Sc.SufAt (zs.drop a) n k) ∨ (l = 3 ∧ Sc.EndAt (zs.drop a) n k) ∨ (l = 0 ∧ Sc.BadAt (zs.drop a) k))
def intM (zs : List Nat) (p : Nat) (l : Nat) (wr : World) : Nat := if l = 2 then 10 + (zs.length - posOf wr p) else if l = 1 then 3 else if l = 3 then 2 else 1
theorem intM_two (zs : List Nat) (p : Nat) (wr : World) : intM zs p 2 wr = 10 + (zs.length - posOf wr p) := rfl
set_option maxRecDepth 100000 in
set_option maxHeartbeats 1000000 in
theorem integer_any {w : World} {p : Nat} {v : Value} {a : Nat} {lv : Value} {zs : List Nat} (ht : Tabs w) (h : CutB w p v a lv) (hs : Sl w v zs) (hp : v.ownBlock ≠ some p) (hp9 : 9 ≤ p) (ha : a < zs.length) :
    Calls Tryd.prog 33 #[.pointer (some ⟨p, 0, none⟩)] w fun e w' => e = .returned (intV (Sc.integerF (zs.drop a))) ∧ CutB w' p v (a + (Sc.integerF (zs.drop a)).len) lv ∧ Keeps (fun k => k = p) w w' := by
  have hlen := hs.len
  unfold maxLen at hlen
  have HT : Hid (Tabs w) := ht
  have HC : Hid (CutB w p v a lv) := h
  have HS : Hid (Sl w v zs) := hs
  clear ht h hs
  have HAh : Hid (∀ W k, IntI w p v zs lv a W k → Calls Tryd.prog 31 #[.pointer (some ⟨p, 0, none⟩)] W fun e w' => e = .returned (.int .u8 (((zs.drop a).drop k).headD 0 : Nat)) ∧ Below W.heap.size W w') := fun W k hI => by
    rw [Sc.headD_drop]
    exact ahead_any hI.2.1 (HS.out.keeps hI.2.2 (fun k hk e => hp (e ▸ hk)))
  have HBy : Hid (∀ k, ((zs.drop a).drop k).headD 0 < 256) := fun k => by
    rw [Sc.headD_drop]
    exact HS.out.byte _
  have HTa : Hid (∀ W k, IntI w p v zs lv a W k → Tabs W) := fun W k hI => HT.out.keeps hI.2.2 (fun k hk e => by omega)
  go_enter Tryd.func33, Tryd.ntmps33
  go_wp2
  refine (fun (h : ∀ a0, a0 = ({ tmps := _, defers := [] } : Act) → Code.wp _ (Code.scope _) _ a0 _) => h _ rfl) ?_
  intro a0 ha0
  refine wp_scope_fall (IntJ w p v zs lv a) (fun l _ wr => intM zs p l wr) ?_ ?_
  · rintro l ac W ⟨k, n, base, ⟨u, rfl⟩, HI, ⟨rfl, hb, hn, hd⟩ | ⟨rfl, hn, hd⟩ | ⟨rfl, hd⟩ | ⟨rfl, hd⟩⟩
    · refine ⟨_, rfl, ?_⟩
      have h16 : base ≤ 16 := by omega
      have hb0 : 0 < base := by omega
      have hbt : base ≤ Sc.top := by unfold Sc.top; omega
      have hz := HBy.out k
      have hvl := Sc.value_le (((zs.drop a).drop k).headD 0)
      have E1 := fun hb => hd.stop hb
      have E2 := fun hb ho => hd.over h16 hb ho
      have E3 := fun hb ho => hd.more h16 hb ho
      have E0 : ¬ base ≤ Sc.value (((zs.drop a).drop k).headD 0) → a + k < zs.length := fun hv => by
        by_cases hlt : a + k < zs.length
        · exact hlt
        · exfalso
          apply hv
          rw [Sc.headD_drop, List.getD_eq_getElem?_getD, List.getElem?_eq_none (by omega)]
          exact h16
      have HA : Hid (∀ W, IntI w p v zs lv a W k → Calls Tryd.prog 31 #[.pointer (some ⟨p, 0, none⟩)] W fun e w' => e = .returned (.int .u8 (((zs.drop a).drop k).headD 0 : Nat)) ∧ Below W.heap.size W w') := fun W hI => HAh.out W k hI
      generalize ((zs.drop a).drop k).headD 0 = z at *
      have HV : Hid (∀ W, Calls Tryd.prog 48 #[.int .u8 (z : Int)] W fun e w' => e = .returned (.int .u64 (Sc.value z : Nat)) ∧ w' = W) := fun W => value_any hz W
      have HM : Hid (∀ W, Calls Tryd.prog 49 #[.int .u64 (n : Int), .int .u64 (base : Int), .int .u64 (Sc.value z : Nat)] W fun e w' => e = .returned (moreV n base (Sc.value z)) ∧ w' = W) := fun W => more_any hn hb0 hbt (by unfold Sc.top; omega) W
      have hov : Sc.over n base (Sc.value z) = false → n * base + Sc.value z ≤ Sc.top := fun ho => over_fits (by unfold Sc.top; omega) ho
      have HE1 : Hid (base ≤ Sc.value z → Sc.SufAt (zs.drop a) n k) := E1
      have HE2 : Hid (¬ base ≤ Sc.value z → Sc.over n base (Sc.value z) = true → Sc.BadAt (zs.drop a) k) := E2
      have HE3 : Hid (¬ base ≤ Sc.value z → Sc.over n base (Sc.value z) = false → Sc.DigAt (zs.drop a) base (n * base + Sc.value z) (k + 1)) := E3
      have HE0 : Hid (¬ base ≤ Sc.value z → a + k < zs.length) := E0
      have HOv : Hid (Sc.over n base (Sc.value z) = false → n * base + Sc.value z ≤ Sc.top) := hov
      have HBb : Hid (base = 10 ∨ base = 16) := hb
      have HPo : Hid (posOf W p = a + k) := HI.2.1.pos
      clear E1 E2 E3 E0 hov hb
      generalize Sc.value z = d at *
      go_wp2_with fail
      refine (HA.out _ HI).mono ?_
      rintro e w1 ⟨rfl, hb1⟩
      have HI1 := HI.below hb1
      clear hb1
      go_wp2_with fail
      refine (HV.out _).mono ?_
      rintro e w2 ⟨rfl, rfl⟩
      by_cases hv : base ≤ d
      · have hs := HE1.out hv
        go_wp2_with fail
        go_step3
        refine ⟨⟨k, n, base, IntFr.mk rfl, HI1, .inr (.inl ⟨rfl, hn, hs⟩)⟩, ?_⟩
        simp [intM]
        omega
      · have hlt := HE0.out hv
        go_wp2_with fail
        refine (HA.out _ HI1).mono ?_
        rintro e w1 ⟨rfl, hb1⟩
        have HI2 := HI1.below hb1
        clear hb1
        go_wp2_with fail
        refine (HV.out _).mono ?_
        rintro e w3 ⟨rfl, rfl⟩
        go_wp2_with fail
        refine (HM.out _).mono ?_
        rintro e w4 ⟨rfl, rfl⟩
        unfold moreV
        have c1 := HI2.2.1.cell1
        have t1 := HI2.2.1.thawed 1
        cases ho : Sc.over n base d with
        | true =>
          have hs := HE2.out hv ho
          rw [if_pos rfl]
          clear ho
          go_wp2_with fail
          go_step3
          refine ⟨⟨k, _, base, IntFr.mk rfl, HI2, .inr (.inr (.inr ⟨rfl, hs⟩))⟩, ?_⟩
          simp [intM]
          omega
        | false =>
          have hs := HE3.out hv ho
          have ht := HOv.out ho
          rw [if_neg (by decide)]
          clear ho
          go_wp2_with fail
          go_step3
          have HI3 := HI2.move 1 (by omega)
          refine ⟨⟨k + 1, n * base + d, base, IntFr.mk rfl, HI3, .inl ⟨rfl, HBb.out, ht, hs⟩⟩, ?_⟩
          have e : posOf (w4.setCell ⟨p, 1, none⟩ (.int .i64 ((a : Int) + (k : Int) + 1))) p = a + (k + 1) := HI3.2.1.pos
          rw [intM_two, intM_two, e, HPo.out]
          omega
    · refine ⟨_, rfl, ?_⟩
      have hz := HBy.out k
      have hz1 := HBy.out (k + 1)
      have E1 := fun hu => hd.one hu
      have E2 := fun hu ho => hd.over hu ho
      have E3 := fun hu ho => hd.more hu ho
      have E0 : Sc.unit (((zs.drop a).drop k).headD 0) ≠ 1 → a + k < zs.length := fun hv => by
        by_cases hlt : a + k < zs.length
        · exact hlt
        · exfalso
          apply hv
          rw [Sc.headD_drop, List.getD_eq_getElem?_getD, List.getElem?_eq_none (by omega)]
          rfl
      have HA : Hid (∀ W, IntI w p v zs lv a W k → Calls Tryd.prog 31 #[.pointer (some ⟨p, 0, none⟩)] W fun e w' => e = .returned (.int .u8 (((zs.drop a).drop k).headD 0 : Nat)) ∧ Below W.heap.size W w') := fun W hI => HAh.out W k hI
      have hu1 : 0 < Sc.unit (((zs.drop a).drop k).headD 0) ∧ Sc.unit (((zs.drop a).drop k).headD 0) ≤ 1048576 := by unfold Sc.unit; split <;> (try split) <;> omega
      generalize ((zs.drop a).drop k).headD 0 = z at *
      have HV : Hid (∀ W, Calls Tryd.prog 50 #[.int .u8 (z : Int)] W fun e w' => e = .returned (.int .u64 (Sc.unit z : Nat)) ∧ w' = W) := fun W => unit_any hz W
      have HM : Hid (∀ W, Calls Tryd.prog 49 #[.int .u64 (n : Int), .int .u64 (Sc.unit z : Nat), .int .u64 0] W fun e w' => e = .returned (moreV n (Sc.unit z) 0) ∧ w' = W) := fun W => more_any (d := 0) hn hu1.1 (by unfold Sc.top; omega) (by unfold Sc.top; omega) W
      have HE1 : Hid (Sc.unit z = 1 → Sc.EndAt (zs.drop a) n k) := E1
      have HE2 : Hid (Sc.unit z ≠ 1 → Sc.over n (Sc.unit z) 0 = true → Sc.BadAt (zs.drop a) k) := E2
      have HE3 : Hid (Sc.unit z ≠ 1 → Sc.over n (Sc.unit z) 0 = false → Sc.EndAt (zs.drop a) (n * Sc.unit z + 0) (k + 1)) := E3
      have HE0 : Hid (Sc.unit z ≠ 1 → a + k < zs.length) := E0
      clear E1 E2 E3 E0
      generalize Sc.unit z = d at *
      go_wp2_with fail
      refine (HA.out _ HI).mono ?_
      rintro e w1 ⟨rfl, hb1⟩
      have HI1 := HI.below hb1
      clear hb1
      go_wp2_with fail
      refine (HV.out _).mono ?_
      rintro e w2 ⟨rfl, rfl⟩
      by_cases hv : d = 1
      · have hs := HE1.out hv
        subst hv
        go_wp2_with fail
        go_step3
        refine ⟨⟨k, n, base, IntFr.mk rfl, HI1, .inr (.inr (.inl ⟨rfl, hs⟩))⟩, ?_⟩
        simp [intM]
      · have hlt := HE0.out hv
        have q : ((d : Int) == 1) = false := beq_eq_false_iff_ne.2 (by omega)
        go_wp2_with fail
        refine (HM.out _).mono ?_
        rintro e w4 ⟨rfl, rfl⟩
        unfold moreV
        have c1 := HI1.2.1.cell1
        have t1 := HI1.2.1.thawed 1
        cases ho : Sc.over n d 0 with
        | true =>
          have hs := HE2.out hv ho
          rw [if_pos rfl]
          clear ho
          go_wp2_with fail
          go_step3
          refine ⟨⟨k, _, base, IntFr.mk rfl, HI1, .inr (.inr (.inr ⟨rfl, hs⟩))⟩, ?_⟩
          simp [intM]
        | false =>
          have hs := HE3.out hv ho
          rw [if_neg (by decide)]
          clear ho
          have HI3 : IntI w p v zs lv a (w4.setCell ⟨p, 1, none⟩ (.int .i64 ((a : Int) + (k : Int) + 1))) (k + 1) := HI1.move 1 (by omega)
          have HA3 : Hid (∀ W, IntI w p v zs lv a W (k + 1) → Calls Tryd.prog 31 #[.pointer (some ⟨p, 0, none⟩)] W fun e w' => e = .returned (.int .u8 (((zs.drop a).drop (k + 1)).headD 0 : Nat)) ∧ Below W.heap.size W w') := fun W hI => HAh.out W (k + 1) hI
          have HW3 : Hid (∀ W, IntI w p v zs lv a W (k + 1) → Calls Tryd.prog 44 #[.int .u8 ((((zs.drop a).drop (k + 1)).headD 0 : Nat) : Int)] W fun e w' => e = .returned (.bool (Sc.isW (((zs.drop a).drop (k + 1)).headD 0))) ∧ w' = W) := fun W hI => isWord_any hz1 (HTa.out W _ hI)
          have F1 := fun hw => hs.bad hw
          have F2 := fun hw => hs.ok hw
          generalize ((zs.drop a).drop (k + 1)).headD 0 = y at *
          generalize n * d + 0 = m at *
          have HF1 : Hid (Sc.isW y = true → Sc.BadAt (zs.drop a) (k + 1)) := F1
          have HF2 : Hid (Sc.isW y = false → Sc.integerF (zs.drop a) = .ok m (k + 1)) := F2
          clear F1 F2
          go_wp2_with fail
          go_step3
          go_wp2_with fail
          refine (HA3.out _ HI3).mono ?_
          rintro e w5 ⟨rfl, hb5⟩
          have HI5 := HI3.below hb5
          clear hb5
          go_wp2_with fail
          refine (HW3.out _ HI5).mono ?_
          rintro e w6 ⟨rfl, rfl⟩
          cases hw : Sc.isW y with
          | true =>
            have hs := HF1.out hw
            clear hw
            go_wp2_with fail
            go_step3
            refine ⟨⟨k + 1, m, base, IntFr.mk rfl, HI5, .inr (.inr (.inr ⟨rfl, hs⟩))⟩, ?_⟩
            simp [intM]
          | false =>
            have HR : Hid (Sc.integerF (zs.drop a) = .ok m (k + 1)) := HF2.out hw
            clear hw
            go_wp2_with fail
            rw [Jumps_ret]
            go_ret2
            rw [HR.out]
            exact ⟨rfl, HI5.2.1, HI5.2.2⟩
    · refine ⟨_, rfl, ?_⟩
      have hz := HBy.out k
      have HA : Hid (∀ W, IntI w p v zs lv a W k → Calls Tryd.prog 31 #[.pointer (some ⟨p, 0, none⟩)] W fun e w' => e = .returned (.int .u8 (((zs.drop a).drop k).headD 0 : Nat)) ∧ Below W.heap.size W w') := fun W hI => HAh.out W k hI
      have HW : Hid (∀ W, IntI w p v zs lv a W k → Calls Tryd.prog 44 #[.int .u8 ((((zs.drop a).drop k).headD 0 : Nat) : Int)] W fun e w' => e = .returned (.bool (Sc.isW (((zs.drop a).drop k).headD 0))) ∧ w' = W) := fun W hI => isWord_any hz (HTa.out W _ hI)
      have F1 := fun hw => hd.bad hw
      have F2 := fun hw => hd.ok hw
      generalize ((zs.drop a).drop k).headD 0 = y at *
      have HF1 : Hid (Sc.isW y = true → Sc.BadAt (zs.drop a) k) := F1
      have HF2 : Hid (Sc.isW y = false → Sc.integerF (zs.drop a) = .ok n k) := F2
      clear F1 F2
      go_wp2_with fail
      refine (HA.out _ HI).mono ?_
      rintro e w5 ⟨rfl, hb5⟩
      have HI5 := HI.below hb5
      clear hb5
      go_wp2_with fail
      refine (HW.out _ HI5).mono ?_
      rintro e w6 ⟨rfl, rfl⟩
      cases hw : Sc.isW y with
      | true =>
        have hs := HF1.out hw
        clear hw
        go_wp2_with fail
        go_step3
        refine ⟨⟨k, n, base, IntFr.mk rfl, HI5, .inr (.inr (.inr ⟨rfl, hs⟩))⟩, ?_⟩
        simp [intM]
      | false =>
        have HR : Hid (Sc.integerF (zs.drop a) = .ok n k) := HF2.out hw
        clear hw
        go_wp2_with fail
        rw [Jumps_ret]
        go_ret2
        rw [HR.out]
        exact ⟨rfl, HI5.2.1, HI5.2.2⟩
    · refine ⟨_, rfl, ?_⟩
      have HR : Hid (Sc.integerF (zs.drop a) = .bad k) := hd
      go_wp2_with fail
      rw [Jumps_ret]
      go_ret2
      rw [HR.out]
      exact ⟨rfl, HI.2.1, HI.2.2⟩
  · intro hpass
    subst ha0
    have HP : Hid (∀ l ac W, IntJ w p v zs lv a l ac W → _) := hpass
    clear hpass
    have hst := stands_any HC.out HS.out (by omega) ⟨#[48, 120]⟩ (by decide)
    have hsb : sb ⟨#[48, 120]⟩ = [48, 120] := by decide
    rw [hsb] at hst
    have hHx : decide ((zs.drop a).take [48, 120].length = [48, 120]) = Sc.isHex (zs.drop a) := rfl
    rw [hHx] at hst
    have HSt : Hid (Calls Tryd.prog 47 #[.pointer (some ⟨p, 0, none⟩), .string ⟨#[48, 120]⟩] w fun e w' => e = .returned (.bool (Sc.isHex (zs.drop a))) ∧ Below w.heap.size w w') := hst
    clear hst hsb hHx
    have HI0 : IntI w p v zs lv a w 0 := ⟨by omega, HC.out, Keeps.refl _ _⟩
    go_wp2_with fail
    refine HSt.out.mono ?_
    rintro e w1 ⟨rfl, hb1⟩
    have HI1 := HI0.below hb1
    clear hb1
    cases hx : Sc.isHex (zs.drop a) with
    | false =>
      have hs := Sc.DigAt.begin hx
      clear hx
      go_wp2_with fail
      go_step3
      rename_i K hK
      refine hK _ _ ?_
      refine (HP.out 2 _ _ ?_).code ?_
      rotate_left
      · rfl
      exact ⟨0, 0, 10, IntFr.mk rfl, HI1, .inl ⟨rfl, .inl rfl, by unfold Sc.top; omega, hs⟩⟩
    | true =>
      have c1 := HI1.2.1.cell1
      have t1 := HI1.2.1.thawed 1
      have h2 : a + (0 + 2) ≤ zs.length := by
        have := of_decide_eq_true hx
        have := congrArg List.length this
        simp at this
        omega
      have HI2 : IntI w p v zs lv a (w1.setCell ⟨p, 1, none⟩ (.int .i64 ((a : Int) + 2))) 2 := by
        have := HI1.move 2 h2
        rw [Nat.zero_add] at this
        exact this
      have hz := HBy.out 2
      have HA : Hid (∀ W, IntI w p v zs lv a W 2 → Calls Tryd.prog 31 #[.pointer (some ⟨p, 0, none⟩)] W fun e w' => e = .returned (.int .u8 (((zs.drop a).drop 2).headD 0 : Nat)) ∧ Below W.heap.size W w') := fun W hI => HAh.out W 2 hI
      have F1 := fun hv => Sc.DigAt.hex hx hv
      have F2 := fun hv => Sc.BadAt.hex hx hv
      generalize ((zs.drop a).drop 2).headD 0 = z at *
      have HV : Hid (∀ W, Calls Tryd.prog 48 #[.int .u8 (z : Int)] W fun e w' => e = .returned (.int .u64 (Sc.value z : Nat)) ∧ w' = W) := fun W => value_any hz W
      have HF1 : Hid (¬ 16 ≤ Sc.value z → Sc.DigAt (zs.drop a) 16 0 2) := F1
      have HF2 : Hid (16 ≤ Sc.value z → Sc.BadAt (zs.drop a) 2) := F2
      clear F1 F2 hx
      have hvl := Sc.value_le z
      generalize Sc.value z = d at *
      go_wp2_with fail
      refine (HA.out _ HI2).mono ?_
      rintro e w5 ⟨rfl, hb5⟩
      have HI5 := HI2.below hb5
      clear hb5
      go_wp2_with fail
      refine (HV.out _).mono ?_
      rintro e w6 ⟨rfl, rfl⟩
      by_cases hv : 16 ≤ d
      · have hs := HF2.out hv
        go_wp2_with fail
        go_step3
        exact ⟨2, 0, 16, IntFr.mk rfl, HI5, .inr (.inr (.inr ⟨rfl, hs⟩))⟩
      · have hs := HF1.out hv
        go_wp2_with fail
        go_step3
        rename_i K hK
        refine hK _ _ ?_
        refine (HP.out 2 _ _ ?_).code ?_
        rotate_left
        · rfl
        exact ⟨2, 0, 16, IntFr.mk rfl, HI5, .inl ⟨rfl, .inr rfl, by unfold Sc.top; omega, hs⟩⟩
end Go.Proofs.YtlhecgokedckdaaDoor
