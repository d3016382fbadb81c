/- New of any bus. Own work. -/
import Derived.Test.YtehedllcdpjebaaRgNew
import Derived.Test.YtehedllcdpjebaaRgSum
namespace Go.Proofs.Ytehedllcdpjebaa
open Go.RowKit Go.Maps Go.Proofs.Ytehedllcdpjebaa.Sp
/-- the machine of a bus, or none -/
def MadeR (base : Nat) (W : World) (pm : Option Addr) (rs ds : List Sp) : Prop :=
  (refW rs ds ≠ 0 ∧ pm = none) ∨ (refW rs ds = 0 ∧ ∃ m B V, pm = some ⟨m, 0, none⟩ ∧ Mac W m B V (fun _ => none) (fun _ => 0) rs ds 0 0 0 ∧ ∀ j, Mine m B V (fun _ => none) j → base ≤ j)
theorem MadeR.keeps {Z : Nat → Prop} {base : Nat} {W W' : World} {pm : Option Addr} {rs ds : List Sp} (h : MadeR base W pm rs ds) (hk : Keeps Z W W') (hz : ∀ j, Z j → j < base) : MadeR base W' pm rs ds := by
  rcases h with h | ⟨h0, m, B, V, e, hm, hj⟩
  · exact .inl h
  · exact .inr ⟨h0, m, B, V, e, hm.keeps hk (fun j hj' hz' => by have := hj j hj'; have := hz j hz'; omega), hj⟩
theorem MadeR.below {base : Nat} {W W' : World} {pm : Option Addr} {rs ds : List Sp} (h : MadeR base W pm rs ds) (hb : Below W.heap.size W W') : MadeR base W' pm rs ds :=
  h.keeps (Keeps.of_below (S := fun _ => False) hb) (fun _ h => h.elim)
theorem MadeR.mono {base base' : Nat} {W : World} {pm : Option Addr} {rs ds : List Sp} (h : MadeR base W pm rs ds) (hb : base' ≤ base) : MadeR base' W pm rs ds := by
  rcases h with h | ⟨h0, m, B, V, e, hm, hj⟩
  · exact .inl h
  · exact .inr ⟨h0, m, B, V, e, hm, fun j h => Nat.le_trans hb (hj j h)⟩
theorem new_any {w : World} {vr vd : Value} {rs ds : List Sp} (hr : U64.SV w vr rs) (hd : U64.SV w vd ds) (fr : Fits 18446744073709551615 rs) (fd : Fits 18446744073709551615 ds) :
    Calls Try.prog 12 #[.agg #[vr, vd]] w fun e w' => ∃ pm, e = .returned (.tuple #[.pointer pm, .int .i64 (refW rs ds)]) ∧ Hid (Below w.heap.size w w') ∧ Hid (MadeR w.heap.size w' pm rs ds) := by
  by_cases hl : 8 < rs.length ∨ 32 < ds.length
  · have e : refW rs ds = 4 := if_pos hl
    refine (new_many hr hd hl).mono ?_
    rintro _ w' ⟨rfl, hb⟩
    exact ⟨none, by rw [e], hb, .inl ⟨by rw [e]; decide, rfl⟩⟩
  · by_cases s1 : stakeW 18446744073709551615 [] rs = 0
    · by_cases s2 : stakeW 1048576 rs ds = 0
      · by_cases s3 : 67108864 < smR rs
        · have e : refW rs ds = 36 := by rw [refW, if_neg hl]; simp [s1, s2, s3]
          refine (new_big hr hd (by omega) (by omega) fr fd s1 s2 (fun G hG => by have := ground_tot fr s1 hG; omega)).mono ?_
          rintro _ w' ⟨rfl, hb⟩
          exact ⟨none, by rw [e], hb, .inl ⟨by rw [e]; decide, rfl⟩⟩
        · have e : refW rs ds = 0 := by rw [refW, if_neg hl]; simp [s1, s2, s3]
          refine (new_ok hr hd (by omega) (by omega) fr fd s1 s2 (fun G hG => by have := ground_tot fr s1 hG; omega)).mono ?_
          rintro _ w' ⟨m, B, V, rfl, hb, hm, hj⟩
          exact ⟨some ⟨m, 0, none⟩, by rw [e], hb, .inr ⟨e, m, B, V, rfl, hm, hj⟩⟩
      · have e : refW rs ds = stakeW 1048576 rs ds := by rw [refW, if_neg hl]; simp [s1, s2]
        refine (new_bad2 hr hd (by omega) (by omega) fr fd s1 s2).mono ?_
        rintro _ w' ⟨rfl, hb⟩
        exact ⟨none, by rw [e], hb, .inl ⟨by rw [e]; exact s2, rfl⟩⟩
    · have e : refW rs ds = stakeW 18446744073709551615 [] rs := by rw [refW, if_neg hl]; simp [s1]
      refine (new_bad1 hr hd (by omega) (by omega) fr s1).mono ?_
      rintro _ w' ⟨rfl, hb⟩
      exact ⟨none, by rw [e], hb, .inl ⟨by rw [e]; exact s1, rfl⟩⟩
end Go.Proofs.Ytehedllcdpjebaa
