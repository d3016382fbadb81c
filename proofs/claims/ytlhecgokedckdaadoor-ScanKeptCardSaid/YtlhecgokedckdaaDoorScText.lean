/- Scan: text (made by gen_sctext.py). -/
import Derived.Test.YtlhecgokedckdaaDoorScInt
namespace Go.Proofs.YtlhecgokedckdaaDoor
open Go.RowKit
def textV : Sc.Res (List Nat) → Value
  | .ok s _ => .tuple #[.string (mkS s), .bool true]
  | .bad _ => .tuple #[.string (mkS []), .bool false]
namespace Sc
def hexF : List Nat → Res (List Nat)
  | [] => .bad 2
  | h :: l3 => if 15 < value h then .bad 2 else
    match l3 with
    | [] => .bad 3
    | g :: l4 => if 15 < value g then .bad 3 else ((textF l4).map ((16 * value h + value g) :: ·)).shift 4
theorem hexF_big {h : Nat} (l3 : List Nat) (hv : 15 < value h) : hexF (h :: l3) = .bad 2 := by unfold hexF; exact if_pos hv
def escF : List Nat → Res (List Nat)
  | [] => .bad 1
  | e :: l2 => if e = 120 then hexF l2 else if e = 110 then ((textF l2).map (10 :: ·)).shift 2 else if e = 116 then ((textF l2).map (9 :: ·)).shift 2 else if e = 92 ∨ e = 34 then ((textF l2).map (e :: ·)).shift 2 else .bad 1
theorem textF_cons (b : Nat) (l : List Nat) : textF (b :: l) = if b = 34 then .ok [] 1 else if b = 92 then escF l else if b < 32 ∨ 126 < b then .bad 0 else ((textF l).map (b :: ·)).shift 1 := by
  rw [textF.eq_def]
  cases l with
  | nil => rfl
  | cons e l2 =>
    cases l2 with
    | nil => rfl
    | cons h l3 =>
      cases l3 with
      | nil => rfl
      | cons g l4 => rfl
/-- k bytes have been read: they stand for xs -/
def TxtAt (l xs : List Nat) (k : Nat) : Prop := textF l = ((textF (l.drop k)).map (xs ++ ·)).shift k
def TxtOk (l xs : List Nat) (k : Nat) : Prop := textF l = .ok xs k
def TxtBad (l : List Nat) (k : Nat) : Prop := textF l = .bad k
theorem TxtAt.begin (l : List Nat) : TxtAt l [] 0 := by
  unfold TxtAt
  rw [List.drop_zero]
  cases textF l <;> simp [Res.map, Res.shift]
theorem TxtAt.quote {l xs : List Nat} {k : Nat} (h : TxtAt l xs k) (hb : (l.drop k).headD 0 = 34) : TxtOk l xs (k + 1) := by
  have e := drop_head (l := l) (k := k) (by rw [hb]; decide)
  unfold TxtAt at h
  unfold TxtOk
  rw [h, e, hb]
  rw [textF_cons, if_pos rfl]
  simp [Res.map, Res.shift]
theorem TxtAt.wrong {l xs : List Nat} {k : Nat} (h : TxtAt l xs k) (h1 : (l.drop k).headD 0 ≠ 34) (h2 : (l.drop k).headD 0 ≠ 92) (h3 : (l.drop k).headD 0 < 32 ∨ 126 < (l.drop k).headD 0) : TxtBad l k := by
  unfold TxtAt at h
  unfold TxtBad
  rw [h]
  cases e : l.drop k with
  | nil => rfl
  | cons b t =>
    rw [e] at h1 h2 h3
    have h1' : ¬ b = 34 := h1
    have h2' : ¬ b = 92 := h2
    have h3' : b < 32 ∨ 126 < b := h3
    rw [textF_cons, if_neg h1', if_neg h2', if_pos h3']
    rfl
theorem TxtAt.plain {l xs : List Nat} {k : Nat} (h : TxtAt l xs k) (h1 : (l.drop k).headD 0 ≠ 34) (h2 : (l.drop k).headD 0 ≠ 92) (h3 : ¬ ((l.drop k).headD 0 < 32 ∨ 126 < (l.drop k).headD 0)) : TxtAt l (xs ++ [(l.drop k).headD 0]) (k + 1) := by
  have e := drop_head (l := l) (k := k) (by omega)
  unfold TxtAt at h ⊢
  rw [h]
  conv => lhs; rw [e]
  rw [textF_cons, if_neg h1, if_neg h2, if_neg h3]
  cases textF (l.drop (k + 1)) <;> simp [Res.map, Res.shift] <;> omega
theorem TxtAt.esc {l xs : List Nat} {k c : Nat} (h : TxtAt l xs k) (h1 : (l.drop k).headD 0 = 92)
    (h2 : ((l.drop (k + 1)).headD 0 = 110 ∧ c = 10) ∨ ((l.drop (k + 1)).headD 0 = 116 ∧ c = 9) ∨ (((l.drop (k + 1)).headD 0 = 92 ∨ (l.drop (k + 1)).headD 0 = 34) ∧ c = (l.drop (k + 1)).headD 0)) : TxtAt l (xs ++ [c]) (k + 2) := by
  have e := drop_head (l := l) (k := k) (by rw [h1]; decide)
  have e2 := drop_head (l := l) (k := k + 1) (by omega)
  unfold TxtAt at h ⊢
  rw [h]
  conv => lhs; rw [e, e2, h1]
  generalize (l.drop (k + 1)).headD 0 = x at *
  have key : textF (92 :: x :: l.drop (k + 1 + 1)) = ((textF (l.drop (k + 2))).map (c :: ·)).shift 2 := by
    rcases h2 with ⟨rfl, rfl⟩ | ⟨rfl, rfl⟩ | ⟨rfl | rfl, rfl⟩ <;> rw [textF_cons] <;> rfl
  rw [key]
  cases textF (l.drop (k + 2)) <;> simp [Res.map, Res.shift] <;> omega
theorem TxtAt.escBad {l xs : List Nat} {k : Nat} (h : TxtAt l xs k) (h1 : (l.drop k).headD 0 = 92) (a1 : (l.drop (k + 1)).headD 0 ≠ 120) (a2 : (l.drop (k + 1)).headD 0 ≠ 110) (a3 : (l.drop (k + 1)).headD 0 ≠ 116) (a4 : (l.drop (k + 1)).headD 0 ≠ 92) (a5 : (l.drop (k + 1)).headD 0 ≠ 34) : TxtBad l (k + 1) := by
  have e := drop_head (l := l) (k := k) (by rw [h1]; decide)
  unfold TxtAt at h
  unfold TxtBad
  rw [h, e, h1]
  cases e2 : l.drop (k + 1) with
  | nil => rw [textF_cons]; rfl
  | cons x t =>
    rw [e2] at a1 a2 a3 a4 a5
    have b1 : ¬ x = 120 := a1
    have b2 : ¬ x = 110 := a2
    have b3 : ¬ x = 116 := a3
    have b4 : ¬ x = 92 := a4
    have b5 : ¬ x = 34 := a5
    rw [textF_cons, if_neg (by decide), if_pos rfl, escF, if_neg b1, if_neg b2, if_neg b3, if_neg (by omega)]
    rfl
theorem TxtAt.hex1 {l xs : List Nat} {k : Nat} (h : TxtAt l xs k) (h1 : (l.drop k).headD 0 = 92) (h2 : (l.drop (k + 1)).headD 0 = 120) (h3 : 15 < value ((l.drop (k + 2)).headD 0)) : TxtBad l (k + 2) := by
  have e := drop_head (l := l) (k := k) (by rw [h1]; decide)
  have e2 := drop_head (l := l) (k := k + 1) (by rw [h2]; decide)
  unfold TxtAt at h
  unfold TxtBad
  rw [h, e, h1, e2, h2]
  cases e3 : l.drop (k + 1 + 1) with
  | nil => rw [textF_cons]; rfl
  | cons x t =>
    rw [e3] at h3
    have h3' : 15 < value x := h3
    rw [textF_cons, if_neg (by decide), if_pos rfl, escF, if_pos rfl, hexF_big t h3']
    rfl
theorem TxtAt.hex2 {l xs : List Nat} {k : Nat} (h : TxtAt l xs k) (h1 : (l.drop k).headD 0 = 92) (h2 : (l.drop (k + 1)).headD 0 = 120) (h3 : ¬ 15 < value ((l.drop (k + 2)).headD 0)) (h4 : 15 < value ((l.drop (k + 3)).headD 0)) : TxtBad l (k + 3) := by
  have e := drop_head (l := l) (k := k) (by rw [h1]; decide)
  have e2 := drop_head (l := l) (k := k + 1) (by rw [h2]; decide)
  have e3 := drop_head (l := l) (k := k + 2) (value_ne (base := 16) (by omega) (by decide))
  unfold TxtAt at h
  unfold TxtBad
  rw [h, e, h1, e2, h2, show k + 1 + 1 = k + 2 from rfl, e3]
  generalize (l.drop (k + 2)).headD 0 = y at *
  cases e4 : l.drop (k + 2 + 1) with
  | nil => rw [textF_cons, if_neg (by decide), if_pos rfl, escF, if_pos rfl, hexF, if_neg h3]; rfl
  | cons x t =>
    rw [show k + 3 = k + 2 + 1 from rfl, e4] at h4
    have h4' : 15 < value x := h4
    rw [textF_cons, if_neg (by decide), if_pos rfl, escF, if_pos rfl, hexF, if_neg h3]
    simp only [if_pos h4']
    rfl
theorem TxtAt.hex {l xs : List Nat} {k : Nat} (h : TxtAt l xs k) (h1 : (l.drop k).headD 0 = 92) (h2 : (l.drop (k + 1)).headD 0 = 120) (h3 : ¬ 15 < value ((l.drop (k + 2)).headD 0)) (h4 : ¬ 15 < value ((l.drop (k + 3)).headD 0)) :
    TxtAt l (xs ++ [16 * value ((l.drop (k + 2)).headD 0) + value ((l.drop (k + 3)).headD 0)]) (k + 4) := by
  have e := drop_head (l := l) (k := k) (by rw [h1]; decide)
  have e2 := drop_head (l := l) (k := k + 1) (by rw [h2]; decide)
  have e3 := drop_head (l := l) (k := k + 2) (value_ne (base := 16) (by omega) (by decide))
  have e4 := drop_head (l := l) (k := k + 3) (value_ne (base := 16) (by omega) (by decide))
  unfold TxtAt at h ⊢
  rw [h]
  conv => lhs; rw [e, h1, e2, h2, show k + 1 + 1 = k + 2 from rfl, e3, show k + 2 + 1 = k + 3 from rfl, e4]
  generalize (l.drop (k + 2)).headD 0 = y at *
  generalize (l.drop (k + 3)).headD 0 = x at *
  have key : textF (92 :: 120 :: y :: x :: l.drop (k + 3 + 1)) = ((textF (l.drop (k + 4))).map ((16 * value y + value x) :: ·)).shift 4 := by
    rw [textF_cons, if_neg (by decide), if_pos rfl, escF, if_pos rfl, hexF, if_neg h3]
    simp only [if_neg h4]
  rw [key]
  cases textF (l.drop (k + 4)) <;> simp [Res.map, Res.shift] <;> omega
end Sc
end Go.Proofs.YtlhecgokedckdaaDoor
