/- BusNames. Own work. -/
import Derived.Test.YtmaahompmgmkfaaBNew
import Derived.Test.YtmaahompmgmkfaaBStore
import Derived.Test.YtmaahompmgmkfaaBWhere
import Derived.Laws.StructEq
namespace Go.Proofs.Ytmaahompmgmkfaa
open Go.RowKit Go.Maps Go.Proofs.Ytmaahompmgmkfaa.Sp
def rsN : List Sp := [(4096, 8192)]
def dsN : List Sp := [(12288, 4096)]
theorem on_n (p : Int) : On (rsN ++ dsN) p ↔ 4096 ≤ p ∧ p < 16384 := by
  unfold On rsN dsN
  constructor
  · rintro ⟨r, hr, h1, h2⟩
    simp at hr
    rcases hr with rfl | rfl <;> simp only at h1 h2 <;> omega
  · intro h
    by_cases h1 : p < 12288
    · exact ⟨(4096, 8192), by simp, by simp only; omega⟩
    · exact ⟨(12288, 4096), by simp, by simp only; omega⟩
theorem off_yes {a n : Nat} {x : Int} {b : Bool} (h : OffR (rsN ++ dsN) a n x b) (ha : 4096 ≤ a) (hn : a + n ≤ 16384) : b = false := by
  cases b with
  | false => rfl
  | true =>
    obtain ⟨i, h1, _, _, h4, _⟩ := h.1 rfl
    exact absurd ((on_n _).2 ⟨by omega, by omega⟩) h4
theorem off_no {x : Int} {b : Bool} (h : OffR (rsN ++ dsN) 16380 8 x b) : b = true ∧ x = 16384 := by
  cases b with
  | false =>
    have := (on_n _).1 ((h.2 rfl).2 4 (by omega))
    omega
  | true =>
    obtain ⟨i, h1, h2, _, h4, h5⟩ := h.1 rfl
    rw [on_n] at h4
    refine ⟨rfl, ?_⟩
    by_cases hi : 4 < i
    · have := (on_n _).1 (h5 4 hi)
      omega
    · omega
def M1 : Nat → Nat := putAt (fun _ => 0) 12284 ((Pl.le 8 18446744073709551615).take 8)
theorem le_ff : Pl.le 8 18446744073709551615 = [255, 255, 255, 255, 255, 255, 255, 255] := by decide
theorem num_n : Pl.num 8 (rdTo M1 12287 8 2) = 65535 := by
  have h1 : M1 (12287 + 0) = 255 := by
    unfold M1
    rw [le_ff, show (12287 : Nat) + 0 = 12284 + 3 from rfl, putAt_in _ _ _ _ (by decide)]
    rfl
  have h2 : M1 (12287 + 1) = 255 := by
    unfold M1
    rw [le_ff, show (12287 : Nat) + 1 = 12284 + 4 from rfl, putAt_in _ _ _ _ (by decide)]
    rfl
  have h3 : rdTo M1 12287 8 2 = [255, 255, 0, 0, 0, 0, 0, 0] := by
    rw [rdTo, bytesAt, show List.range 2 = [0, 1] from rfl, List.map_cons, List.map_cons, List.map_nil, h1, h2]
    rfl
  rw [h3]
  decide
theorem cnt_n : cnt M1 = 2 := by
  unfold M1
  rw [le_ff]
  rw [show ([255, 255, 255, 255, 255, 255, 255, 255] : List Nat).take 8 = [255, 255, 255, 255] ++ [255, 255, 255, 255] from rfl, ← putAt_append]
  rw [show (12284 : Nat) + ([255, 255, 255, 255] : List Nat).length = 3 * 4096 + 0 from rfl, show (12284 : Nat) = 2 * 4096 + 4092 from rfl]
  generalize hA : ([255, 255, 255, 255] : List Nat) = A
  have hl : A.length = 4 := by rw [← hA]; rfl
  have hz : allZ A = false := by rw [← hA]; rfl
  have h1 := cnt_one (M := fun _ => 0) (M' := putAt (fun _ => 0) (2 * 4096 + 4092) A) (k := 2) (by unfold pagesN; omega) (fun j hj => by unfold nz; rw [page_put_other _ (by omega) hj])
  rw [nz_false.2 (fun _ _ => rfl), nz_true (not_isZ_put (by omega) hz), cnt_zero] at h1
  have h2 := cnt_one (M := putAt (fun _ => 0) (2 * 4096 + 4092) A) (M' := putAt (putAt (fun _ => 0) (2 * 4096 + 4092) A) (3 * 4096 + 0) A) (k := 3) (by unfold pagesN; omega) (fun j hj => by unfold nz; rw [page_put_other _ (by omega) hj])
  rw [nz_false.2 (fun i hi => put_other (fun _ => 0) (k := 2) (k' := 3) (o := 4092) (zs := A) (by omega) (by omega) i hi), nz_true (not_isZ_put (by omega) hz)] at h2
  rw [if_neg (by decide), if_pos rfl] at h1 h2
  rw [Nat.add_zero] at h1 h2
  rw [h2, h1]
theorem stake_n1 : stakeW 18446744073709551615 [] rsN = 0 := by decide
theorem stake_n2 : stakeW 1048576 rsN dsN = 0 := by decide
theorem size_n (G : List Sp) (h : Ground G rsN) : tot G ≤ 67108864 := by
  have : G = [(4096, 12287)] := canon_ext h.1 ⟨fun x hx => by simp at hx; subst hx; simp, by simp⟩ (fun p => by
    rw [h.2.1 p, in_one]
    unfold On rsN
    constructor
    · rintro ⟨r, hr, h1, h2⟩
      simp at hr
      subst hr
      simp only at h1 h2 ⊢
      omega
    · intro h
      exact ⟨(4096, 8192), by simp, by simp only at h ⊢; omega⟩)
  rw [this]
  decide
theorem where_n : whereV rsN dsN 12290 = .tuple #[.agg #[.int .i64 2, .int .i64 0, .int .u64 2], .bool true] := by
  simp [whereV, spotFrom, spotV, rsN, dsN]
end Go.Proofs.Ytmaahompmgmkfaa
