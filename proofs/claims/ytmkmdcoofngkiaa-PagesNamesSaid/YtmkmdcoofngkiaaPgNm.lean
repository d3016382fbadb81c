/- PagesNames: the walk. Own work. -/
import Derived.Test.YtmkmdcoofngkiaaPgBuild
namespace Go.Proofs.Ytmkmdcoofngkiaa
open Go.RowKit Wk
set_option linter.unusedVariables false
theorem GAt.tab {w : World} {G : Nat} {M : Nat → Nat} (h : GAt w G 1 M) : TabAt w G M := h
theorem lf1_new (w : World) : Lf1 (w.alloc (.cells #[.int .u64 12288, .int .u64 32768, .int .i64 1, .bool false, .bool true, .bool false] 30)) w.heap.size := ⟨(LfAt.new w).lt, (LfAt.new w).c6⟩
set_option maxRecDepth 4000 in
set_option maxHeartbeats 4000000 in
theorem pnames_any (w : World) : Calls Try.prog 3 #[] w fun e w' => e = .returned (.bool true) ∧ Below w.heap.size w w' := by
  go_enter Try.func3, Try.ntmps3
  go_wp2_with fail
  refine build_nil.mono ?_
  rintro e w1 ⟨G, rfl, hg1, hb1⟩
  have HT1 := Lib.hid hg1.tab
  have HB1 := Lib.hid hb1
  clear hg1 hb1
  go_wp2_with (first | (refine wpList_load_tabG (b := G) (f := fun _ => 0) (by kernel_rfl) (.tmp 19) rfl rfl HT1.out ?_) | (refine wpList_neq_tab (f := fun _ => 0) (by kernel_rfl) (.tmp 20) (.tmp 21) rfl rfl rfl ?_))
  refine (build_C (lf1_new w1)).mono ?_
  rintro e w2 ⟨G2, rfl, hg2, hb2⟩
  have HB2 : Hid (Below w.heap.size w w2) := HB1.out.trans (((lf_below w1).trans (hb2.mono (lf_below w1).size)).mono HB1.out.size)
  have HG2 := Lib.hid hg2
  clear hg2 hb2 HB1 HT1
  go_wp2_with fail
  have HB3 : Hid (Below w.heap.size w (w2.alloc (.cells #[.int .u64 12288, .int .u64 32768, .int .i64 1, .bool false, .bool true, .bool false] 30))) := HB2.out.trans ((lf_below w2).mono HB2.out.size)
  refine (count_C (lf1_new w2)).mono ?_
  rintro e w3 ⟨rfl, hb3⟩
  have HG3 := Lib.hid ((HG2.out.below (lf_below w2)).below hb3)
  have HB4 := Lib.hid (HB3.out.trans (hb3.mono HB3.out.size))
  clear hb3 HG2 HB2 HB3
  have g0 : w3.cell? ⟨G2, 0, none⟩ = some (.int .u64 69633) := HG3.out.cell (p := 0) (by omega)
  have g1 : w3.cell? ⟨G2, 512, none⟩ = some (.int .u64 73729) := HG3.out.cell (p := 512) (by omega)
  have g2 : w3.cell? ⟨G2, 1027, none⟩ = some (.int .u64 32771) := HG3.out.cell (p := 1027) (by omega)
  have g3 : w3.cell? ⟨G2, 1024, none⟩ = some (.int .u64 0) := HG3.out.cell (p := 1024) (by omega)
  go_wp2_with fail
  go_ret
  exact ⟨rfl, HB4.out⟩
end Go.Proofs.Ytmkmdcoofngkiaa
