/- Two arrays of points compared. Own work. -/
import Derived.Test.YtogcpogoamoljaaSpMark
import Derived.ChangeKeysEq
import Derived.Laws.StructEq
namespace Go.Proofs.Ytogcpogoamoljaa
open Go.RowKit Go.Shelf
/-- the same points? -/
def allF (f g : Nat → Bool) : Bool := (List.range 256).all fun i => f i == g i
theorem allF_iff (f g : Nat → Bool) : allF f g = true ↔ ∀ i, i < 256 → f i = g i := by
  simp [allF]
theorem pts_equal (f g : Nat → Bool) (w : World) : (Op.equalIn 10000 33 (.agg (ptsV f)) (.agg (ptsV g))).run Try.prog w = .ok (allF f g) w := by
  have hu : Try.prog.underlying 33 = some (.array 256 4) := by kernel_rfl
  have hb : Try.prog.underlying 4 = some .bool := by kernel_rfl
  have hs : (Try.prog.info? 4).isSome = true := by kernel_rfl
  obtain ⟨i, hi⟩ := Option.isSome_iff_exists.1 hs
  have hc : Try.prog.cellsOf 4 = 1 := by kernel_rfl
  rw [run_equalIn_array w 9999 (ptsV f) (ptsV g) hu hi, hc]
  have hl : ∀ j ∈ List.range 256, j < 256 := fun j hj => List.mem_range.1 hj
  unfold allF
  generalize List.range 256 = l at hl ⊢
  induction l with
  | nil => simp [Op.eqItems]
  | cons j l ih =>
    have hj : j < 256 := hl j (by simp)
    have px : ∀ f : Nat → Bool, (part 4 (ptsV f) (j * 1)).run Try.prog w = .ok (.bool (f j)) w := fun f => by
      have := ptsV_get f hj
      simp [part, isAgg, run_underlying hb, this]
    simp only [Op.eqItems, Sem.run_bind, px, run_equalIn_bool' w 9998 4 _ _ hb, Result.andThen_ok, List.all_cons]
    cases h : (f j == g j)
    · simp
    · simp only [Bool.not_true, Bool.false_eq_true, if_false, Bool.true_and]
      exact ih fun k hk => hl k (by simp [hk])
end Go.Proofs.Ytogcpogoamoljaa
