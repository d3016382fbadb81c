/- Lanes: a slot row is known by who runs at which tick (plain mathematics). Own work. -/
import Derived.Test.YtkhlkbgolonkkaaLnEdg
namespace Go.Proofs.Ytkhlkbgolonkkaa
set_option linter.unusedVariables false
theorem gd_apart {e : Int} {p : Option ByteArray} {x y : S3} {r r2 : List S3} (hx : Gd e p (x :: r)) (hy : Gd e p (y :: r2)) (he : endE x.t r = endE y.t r2) (hs : x.s = y.s) (hf : ∀ t, e ≤ t → t < endE x.t r → (findS t (x :: r)).1 = (findS t (y :: r2)).1) (hlt : x.t < y.t) : False := by
  have h1 := gd_lt hx.1
  have h2 := gd_le r2 _ _ hy.2
  cases r with
  | nil =>
    have : x.t = endE y.t r2 := he
    omega
  | cons z r' =>
    have h3 := gd_lt hx.2.1
    have h4 := gd_le r' _ _ hx.2.2
    have h5 := hf x.t (by omega) (by show x.t < endE z.t r'; omega)
    have e1 : findS x.t (x :: z :: r') = (z.s, z.t - x.t) := by
      show (if x.t < x.t then _ else if x.t < z.t then _ else _) = _
      rw [if_neg (by omega), if_pos h3.2]
    have e2 : findS x.t (y :: r2) = (y.s, y.t - x.t) := by
      show (if x.t < y.t then _ else _) = _
      rw [if_pos hlt]
    rw [e1, e2] at h5
    have h6 : z.s = y.s := h5
    refine hx.2.1 (.inr (.inr ⟨x.s, rfl, ?_⟩))
    rw [h6, hs]
    simp
theorem gd_uniq : ∀ (xs ys : List S3) (e : Int) (p : Option ByteArray), Gd e p xs → Gd e p ys → endE e xs = endE e ys → (∀ t, e ≤ t → t < endE e xs → (findS t xs).1 = (findS t ys).1) → xs = ys
  | [], [], _, _, _, _, _, _ => rfl
  | [], y :: r2, e, p, _, hy, he, _ => by
    have h1 := gd_lt hy.1
    have h2 := gd_le r2 _ _ hy.2
    have : e = endE y.t r2 := he
    omega
  | x :: r, [], e, p, hx, _, he, _ => by
    have h1 := gd_lt hx.1
    have h2 := gd_le r _ _ hx.2
    have : endE x.t r = e := he
    omega
  | x :: r, y :: r2, e, p, hx, hy, he, hf => by
    have he : endE x.t r = endE y.t r2 := he
    have hf : ∀ t, e ≤ t → t < endE x.t r → (findS t (x :: r)).1 = (findS t (y :: r2)).1 := hf
    have h1 := gd_lt hx.1
    have h2 := gd_lt hy.1
    have h3 := gd_le r _ _ hx.2
    have hs : x.s = y.s := by
      have h5 := hf e (Int.le_refl _) (by omega)
      have e1 : findS e (x :: r) = (x.s, x.t - e) := by
        show (if e < x.t then _ else _) = _
        rw [if_pos h1.2]
      have e2 : findS e (y :: r2) = (y.s, y.t - e) := by
        show (if e < y.t then _ else _) = _
        rw [if_pos h2.2]
      rw [e1, e2] at h5
      exact h5
    have ht : x.t = y.t := by
      rcases Int.lt_trichotomy x.t y.t with h | h | h
      · exact (gd_apart hx hy he hs hf h).elim
      · exact h
      · exact (gd_apart hy hx he.symm hs.symm (fun t a b => (hf t a (by omega)).symm) h).elim
    have hxy : x = y := by
      obtain ⟨a, b, c⟩ := x
      obtain ⟨a', b', c'⟩ := y
      simp only at hs ht h1 h2
      rw [hs, ht, h1.1, h2.1]
    subst hxy
    congr 1
    refine gd_uniq r r2 x.t (some x.s) hx.2 hy.2 he fun t a b => ?_
    have h5 := hf t (by omega) b
    have e1 : findS t (x :: r) = findS t r := by
      show (if t < x.t then _ else _) = _
      rw [if_neg (by omega)]
    have e2 : findS t (x :: r2) = findS t r2 := by
      show (if t < x.t then _ else _) = _
      rw [if_neg (by omega)]
    rw [e1, e2] at h5
    exact h5
/-- the needs of the document's second example -/
def exN : List R4 := [⟨0, ⟨#[97]⟩, 1, 2⟩, ⟨0, ⟨#[98]⟩, 2, 4⟩]
def exR : List S3 := [⟨⟨#[97]⟩, 0, 1⟩, ⟨⟨#[98]⟩, 1, 2⟩, ⟨⟨#[97]⟩, 2, 3⟩, ⟨⟨#[98]⟩, 3, 4⟩]
theorem exN_ok : NeedOk 4 exN := by
  intro r hr
  simp only [exN, List.mem_cons, List.not_mem_nil, or_false] at hr
  rcases hr with rfl | rfl <;> decide
theorem exR_gd : Gd 0 none exR := by
  have hab : ¬ (((⟨#[98]⟩ : ByteArray).toList == (⟨#[97]⟩ : ByteArray).toList) = true) := by rw [ByteArray.toList_eq, ByteArray.toList_eq]; decide
  have hba : ¬ (((⟨#[97]⟩ : ByteArray).toList == (⟨#[98]⟩ : ByteArray).toList) = true) := by rw [ByteArray.toList_eq, ByteArray.toList_eq]; decide
  refine ⟨?_, ?_, ?_, ?_, trivial⟩
  · rintro (h | h | ⟨q, h, _⟩)
    · exact h rfl
    · exact absurd h (by decide)
    · cases h
  · rintro (h | h | ⟨q, h, h2⟩)
    · exact h rfl
    · exact absurd h (by decide)
    · cases h; exact hab h2
  · rintro (h | h | ⟨q, h, h2⟩)
    · exact h rfl
    · exact absurd h (by decide)
    · cases h; exact hba h2
  · rintro (h | h | ⟨q, h, h2⟩)
    · exact h rfl
    · exact absurd h (by decide)
    · cases h; exact hab h2
theorem ex_row {ws cs : List J4} {rs : List S3} (h : Ed 4 exN ws cs rs) (he : endF rs = 4) : rs = exR := by
  have J := ed_edf exN_ok (by decide) (by decide) (by decide) h
  have ee : endE 0 rs = 4 := by rw [endE_endF, he]
  refine gd_uniq rs exR 0 none J.gd exR_gd (by rw [ee]; rfl) fun t h0 h1 => ?_
  rw [ee] at h1
  have h5 := J.who t.toNat (by omega)
  rw [show ((t.toNat : Nat) : Int) = t by omega] at h5
  rw [h5]
  have : t = 0 ∨ t = 1 ∨ t = 2 ∨ t = 3 := by omega
  rcases this with rfl | rfl | rfl | rfl
  · rw [show bestT exN (0 : Int).toNat = some 0 from by decide]; rfl
  · rw [show bestT exN (1 : Int).toNat = some 1 from by decide]; rfl
  · rw [show bestT exN (2 : Int).toNat = some 0 from by decide]; rfl
  · rw [show bestT exN (3 : Int).toNat = some 1 from by decide]; rfl
theorem ex_ref : refF 4 true 4 0 exN = (0, 0) := by
  simp [refF, wantsF, exN, ByteArray.toList_eq]
end Go.Proofs.Ytkhlkbgolonkkaa
