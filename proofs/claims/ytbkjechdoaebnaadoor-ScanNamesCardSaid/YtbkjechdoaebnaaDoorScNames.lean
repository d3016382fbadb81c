/- ScanNames: the walk. -/
import Derived.Test.YtbkjechdoaebnaaDoorScKnown
namespace Go.Proofs.YtbkjechdoaebnaaDoor
open Go.RowKit Sc
/-- the bytes of chapter 5's first example -/
def txtC : List Nat := [114, 97, 109, 32, 48, 120, 49, 48, 48, 48, 32, 115, 105, 122, 101, 32, 54, 52, 75, 59]
theorem toksC : Sc.tokens txtC = ([⟨39, 0, [], 0, 3⟩, ⟨2, 4096, [], 4, 10⟩, ⟨40, 0, [], 11, 15⟩, ⟨2, 65536, [], 16, 19⟩, ⟨10, 0, [], 19, 20⟩], 0, 0) := by decide +kernel
set_option maxRecDepth 100000 in
set_option maxHeartbeats 1000000 in
theorem names_walk {w : World} (ht : Tabs w) (h9 : 9 ≤ w.heap.size) : Calls Tryd.prog 3 #[] w fun e w' => e = .returned (.bool true) ∧ Below w.heap.size w w' := by
  have HT : Hid (Tabs w) := ht
  clear ht
  obtain ⟨X, hX⟩ : ∃ X : Array Value, X = #[.int .u8 114, .int .u8 97, .int .u8 109, .int .u8 32, .int .u8 48, .int .u8 120, .int .u8 49, .int .u8 48, .int .u8 48, .int .u8 48, .int .u8 32, .int .u8 115, .int .u8 105, .int .u8 122, .int .u8 101, .int .u8 32, .int .u8 54, .int .u8 52, .int .u8 75, .int .u8 59] := ⟨_, rfl⟩
  have hcv := convert_lit w txtC X (by rw [hX]; rfl)
  have hA0 := sl_lit w txtC (20, 21) (by decide) (by decide)
  have hb0 : Below w.heap.size w (w.alloc (.cells X 5 (20, 21))) := (Below.refl _ _).alloc (Nat.le_refl _) _
  have HA : Hid (Calls Tryd.prog 9 #[.slice (some ⟨w.heap.size, 0, none⟩) 20 20] (w.alloc (.cells X 5 (20, 21))) fun e w' => ∃ lv, e = .returned (.tuple #[lv, .int .i64 0, .int .i64 0]) ∧ OwnT w' w.heap.size lv [⟨39, 0, [], 0, 3⟩, ⟨2, 4096, [], 4, 10⟩, ⟨40, 0, [], 11, 15⟩, ⟨2, 65536, [], 16, 19⟩, ⟨10, 0, [], 19, 20⟩] ∧ Below w.heap.size w w') := by
    subst hX
    have hx := tokens_any (w := w.alloc (.cells #[.int .u8 114, .int .u8 97, .int .u8 109, .int .u8 32, .int .u8 48, .int .u8 120, .int .u8 49, .int .u8 48, .int .u8 48, .int .u8 48, .int .u8 32, .int .u8 115, .int .u8 105, .int .u8 122, .int .u8 101, .int .u8 32, .int .u8 54, .int .u8 52, .int .u8 75, .int .u8 59] 5 (20, 21))) (HT.out.below hb0) hA0 (fun k hk => by cases hk; simp) (by simp; omega)
    rw [toksC] at hx
    refine hx.mono ?_
    rintro e w' ⟨lv, rfl, ho, hb⟩
    have hb' : Below w.heap.size w w' := hb0.trans (hb.mono (by simp))
    exact ⟨lv, rfl, ⟨ho.1, ho.2.imp id (fun ⟨g, c, cur, a1, a2, a3⟩ => ⟨g, c, cur, a1, by simp at a2; omega, a3⟩)⟩, hb'⟩
  simp only [txtC, List.length_cons, List.length_nil] at hcv
  clear hA0 hb0
  subst hX
  go_enter Tryd.func3, Tryd.ntmps3
  go_wp2_with fail
  refine HA.out.mono ?_
  rintro e w1 ⟨lv, rfl, ho, hb⟩
  clear hcv HA
  have HB : Hid (Below w.heap.size w w1) := hb
  have HK : Hid (∀ W, Below w.heap.size w W → Calls Tryd.prog 10 #[] W fun e w' => e = .returned (.bool true) ∧ Below W.heap.size W w') := fun W hW => known_any (HT.out.below hW) (Nat.le_trans h9 hW.size)
  obtain ⟨g, cap, rfl, hg1, hg2, hg3, hg4, hg5⟩ := ho.cells (by decide)
  have d0 : w1.cell? ⟨g, 0, none⟩ = some (.int .i64 39) := hg5 0 0 (by decide) (by decide)
  have d1 : w1.cell? ⟨g, 6, none⟩ = some (.int .u64 4096) := hg5 1 1 (by decide) (by decide)
  have d2 : w1.cell? ⟨g, 16, none⟩ = some (.int .u64 65536) := hg5 3 1 (by decide) (by decide)
  have d3 : w1.cell? ⟨g, 23, none⟩ = some (.int .i64 19) := hg5 4 3 (by decide) (by decide)
  have d4 : w1.cell? ⟨g, 24, none⟩ = some (.int .i64 20) := hg5 4 4 (by decide) (by decide)
  clear hg5 hb hg3 hg4 ho
  go_wp2_with fail
  refine (HK.out _ HB.out).mono ?_
  rintro e w2 ⟨rfl, hb2⟩
  go_wp2_with fail
  go_ret
  exact ⟨rfl, HB.out.trans (hb2.mono HB.out.size)⟩
end Go.Proofs.YtbkjechdoaebnaaDoor
