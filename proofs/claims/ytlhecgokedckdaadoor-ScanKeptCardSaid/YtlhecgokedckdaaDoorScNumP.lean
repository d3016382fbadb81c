import Derived.Test.YtlhecgokedckdaaDoorShelfUint
import Derived.Test.YtlhecgokedckdaaDoorPkB
import Derived.Test.YtlhecgokedckdaaDoorScLaid
import Derived.Lib.AppendIntMem
/- Scan: Number. -/
namespace Go.Proofs.YtlhecgokedckdaaDoor
open Go.RowKit Sc
/-- strconv's table of powers lies in memory -/
def Pows (w : World) : Prop := Lib.TabIs Tryd.prog w "internal/strconv.uint64pow10" .u64 Lib.pow10Tab
theorem Pows.below {w w' : World} (h : Pows w) (hb : Below w.heap.size w w') : Pows w' := Lib.tabBelow_of_tabIs h w' hb
theorem pows_of {W : World} {laid : List (String × DataW Unit)} (h : laidMet Tryd.prog laid W) (m : ("internal/strconv.uint64pow10", Rows.laid_internal_strconv_uint64pow10) ∈ laid) : Pows W := by
  obtain ⟨ps, hv, _⟩ := h
  obtain ⟨g', t', cs, fuel, p, h1, h2, h3, h4⟩ : ReadsAs W "internal/strconv.uint64pow10" (Lib.tabData .u64 Lib.pow10Tab) := laid_each hv _ m
  have hc := Lib.cells_of_tab (t := 96) Tryd.underlying96 Tryd.underlying36 (by kernel_rfl) (by kernel_rfl) (by
    obtain rfl : g' = 5 := Option.some.inj (h1.symm.trans (by kernel_rfl))
    obtain rfl : t' = 96 := Option.some.inj (h2.symm.trans (by kernel_rfl))
    exact h4)
  unfold Pows Lib.TabIs
  rw [h3, ← hc]
theorem iappend_any {n : Nat} (hn : n ≤ top) {w : World} (hp : Pows w) :
    Calls Tryd.prog 43 #[.slice none 0 0, .int .u64 (n : Int), .int .i64 10] w fun e w' => ∃ v, e = .returned v ∧ Own w' w.heap.size v (decN n) ∧ Below w.heap.size w w' := by
  refine (Any.internal_strconv_AppendUint_10 laysUint w.heap.size 0 n (by unfold top at hn; omega) (.slice none 0 0) [] w (World.ownsRow_nil _ _ _ _) (Nat.le_refl _) (by decide) hp).mono ?_
  rintro e w' ⟨v', rfl, ho, hb, _⟩
  refine ⟨v', rfl, ?_, hb⟩
  have hd := decN_digits n
  have hl : (Lib.decDigits n).length = (decN n).length := by
    have := congrArg List.length hd
    simpa [Lib.byteCells] using this
  rw [hd, hl, Nat.zero_add, List.nil_append] at ho
  exact ho
set_option maxHeartbeats 400000 in
theorem sappend_any {x : Int} {n : Nat} (hx : IsN x n) (hn : n ≤ top) {w : World} (hp : Pows w) :
    Calls Tryd.prog 24 #[.slice none 0 0, .int .u64 x, .int .i64 10] w fun e w' => ∃ v, e = .returned v ∧ Own w' w.heap.size v (decN n) ∧ Below w.heap.size w w' := by
  have HX' : Hid (Calls Tryd.prog 43 #[.slice none 0 0, .int .u64 x, .int .i64 10] w fun e w' => ∃ v, e = .returned v ∧ Own w' w.heap.size v (decN n) ∧ Below w.heap.size w w') := by
    unfold IsN at hx
    rw [hx]
    exact iappend_any hn hp
  clear hx hn hp
  go_enter Tryd.func24, Tryd.ntmps24
  go_wp2_with fail
  refine HX'.out.mono ?_
  rintro e w1 ⟨v, rfl, ho, hb⟩
  go_wp2_with fail
  go_ret
  exact ⟨_, rfl, ho, hb⟩
set_option maxHeartbeats 400000 in
theorem number_any {x : Int} {n : Nat} (hx : IsN x n) (hn : n ≤ top) {w : World} (hp : Pows w) :
    Calls Tryd.prog 9 #[.int .u64 x] w fun e w' => ∃ v, e = .returned v ∧ Own w' w.heap.size v (decN n) ∧ Below w.heap.size w w' := by
  have HX' : Hid (Calls Tryd.prog 24 #[.slice none 0 0, .int .u64 x, .int .i64 10] w fun e w' => ∃ v, e = .returned v ∧ Own w' w.heap.size v (decN n) ∧ Below w.heap.size w w') := sappend_any hx hn hp
  clear hx hn hp
  go_enter Tryd.func9, Tryd.ntmps9
  go_wp2_with fail
  refine HX'.out.mono ?_
  rintro e w1 ⟨v, rfl, ho, hb⟩
  go_wp2_with fail
  go_ret
  exact ⟨_, rfl, ho, hb⟩
end Go.Proofs.YtlhecgokedckdaaDoor
