/- bulkheadlaw6.known. Own work. -/
import Derived.Test.YtmkibolkcjallaaGreatDoorSyParN
import Derived.Laws.StructEq
namespace Go.Proofs.YtmkibolkcjallaaGreatDoor
open Go.RowKit Sc
theorem push_modify (a : Array Obj) (x : Obj) (f : Obj → Obj) : (a.push x).modify a.size f = a.push (f x) := by
  refine Array.ext (by simp) fun i h1 h2 => ?_
  rw [Array.getElem_modify]
  by_cases h : a.size = i
  · subst h
    simp
  · rw [if_neg h, Array.getElem_push, Array.getElem_push, dif_pos (by simp at h1; omega), dif_pos (by simp at h1; omega)]
/-- []byte of a constant -/
theorem convert_lit (w : World) (L : List Nat) (cs : Array Value) (hcs : cs.size = L.length) : (convert 34 34 (.slice (some ⟨w.heap.size, 0, none⟩) L.length L.length)).run Tryz.prog (w.alloc (.cells cs 5)) = .ok (.slice (some ⟨w.heap.size, 0, none⟩) L.length L.length) (w.alloc (.cells cs 5 (L.length, L.length + 1))) := by
  have hh : (w.alloc (.cells cs 5)).heap[w.heap.size]? = some (.cells cs 5) := heap_alloc_new w _
  have hs : (w.alloc (.cells cs 5)).shape? w.heap.size = some (5, L.length) := by
    unfold World.shape?
    rw [hh]
    simp [hcs]
  have hf : (w.alloc (.cells cs 5)).freeze ⟨w.heap.size, L.length, none⟩ 1 = w.alloc (.cells cs 5 (L.length, L.length + 1)) := by
    unfold World.freeze
    rw [if_neg (by decide)]
    show ({ w.alloc (.cells cs 5) with heap := (w.heap.push (.cells cs 5)).modify w.heap.size _ } : World) = _
    rw [push_modify]
    rfl
  simp [convert, run_underlying Tryz.underlying34, run_underlying Tryz.underlying5, markStringish, hs]
  exact hf
theorem sl_lit (w : World) (L : List Nat) (fr : Nat × Nat) (hL : ∀ z ∈ L, z < 256) (hl : L.length ≤ 1000) : Sl (w.alloc (.cells (bvs L).toArray 5 fr)) (.slice (some ⟨w.heap.size, 0, none⟩) L.length L.length) L := by
  have hr : (w.alloc (.cells (bvs L).toArray 5 fr)).heap[w.heap.size]? = some (.cells (bvs L).toArray 5 fr) := heap_alloc_new w _
  refine ⟨some ⟨w.heap.size, 0, none⟩, L.length, rfl, Nat.le_refl _, by unfold maxLen; omega, hL, by simp, fun i hi => ⟨_, _, rfl, ?_⟩⟩
  rw [Nat.zero_add, cell_of_row _ _ i _ _ _ hr]
  simpa using bvs_get L i hi

theorem below_at {B : Nat} {a w' : World} {p : Nat} {X : Obj} (hb : Below B a w') (hp : p < B) (h : a.heap[p]? = some X) : w'.heap[p]? = some X := (hb.block p hp).trans h
set_option maxRecDepth 100000 in
set_option maxHeartbeats 4000000 in
theorem known6_any {w : World} (ht : Tabs w) (h9 : 4 ≤ w.heap.size) : Calls Tryz.prog 6 #[] w fun e w' => e = .returned (.bool true) ∧ Below w.heap.size w w' := by
  have HT : Hid (Tabs w) := ht
  clear ht
  have hcv := convert_lit w zsA #[.int .u8 115, .int .u8 121, .int .u8 115, .int .u8 116, .int .u8 101, .int .u8 109, .int .u8 32, .int .u8 115, .int .u8 32, .int .u8 123, .int .u8 32, .int .u8 125] rfl
  have hb0 : Below w.heap.size w (w.alloc (.cells #[.int .u8 115, .int .u8 121, .int .u8 115, .int .u8 116, .int .u8 101, .int .u8 109, .int .u8 32, .int .u8 115, .int .u8 32, .int .u8 123, .int .u8 32, .int .u8 125] 5 (12, 13))) := (Below.refl _ _).alloc (Nat.le_refl _) _
  have HA := Lib.hid (parse_A (HT.out.below hb0) (sl_lit w zsA (12, 13) (by decide) (by decide)) (by decide) (by simp) (Nat.le_trans h9 hb0.size))
  have HB0 := Lib.hid hb0
  simp only [zsA, List.length_cons, List.length_nil] at hcv
  clear hb0
  go_enter Tryz.func6, Tryz.ntmps6
  go_wp2_with fail
  refine HA.out.mono ?_
  rintro e w1 ⟨rfl, hb1⟩
  have HB1 : Hid (Below w.heap.size w w1) := HB0.out.trans (hb1.mono HB0.out.size)
  clear hcv HA hb1 HB0
  have hz1 : ((w1.alloc (.cells #[.int .i64 0, .string ⟨#[115]⟩, .int .i64 7, .slice none 0 0, .slice none 0 0, .slice none 0 0, .slice none 0 0] 28)).alloc (.cells #[.int .i64 0, .int .i64 0, .int .i64 0] 30)).heap.size = w1.heap.size + 1 + 1 := by simp
  have HBW : Hid (Below w1.heap.size w1 ((w1.alloc (.cells #[.int .i64 0, .string ⟨#[115]⟩, .int .i64 7, .slice none 0 0, .slice none 0 0, .slice none 0 0, .slice none 0 0] 28)).alloc (.cells #[.int .i64 0, .int .i64 0, .int .i64 0] 30))) := ((Below.refl _ _).alloc (Nat.le_refl _) _).alloc (by simp) _
  have HT1 : Hid (((w1.alloc (.cells #[.int .i64 0, .string ⟨#[115]⟩, .int .i64 7, .slice none 0 0, .slice none 0 0, .slice none 0 0, .slice none 0 0] 28)).alloc (.cells #[.int .i64 0, .int .i64 0, .int .i64 0] 30)).heap[w1.heap.size]? = some (.cells #[.int .i64 0, .string ⟨#[115]⟩, .int .i64 7, .slice none 0 0, .slice none 0 0, .slice none 0 0, .slice none 0 0] 28 (0, 0))) := alloc2_0 w1 _ _
  have HP1 : Hid (((w1.alloc (.cells #[.int .i64 0, .string ⟨#[115]⟩, .int .i64 7, .slice none 0 0, .slice none 0 0, .slice none 0 0, .slice none 0 0] 28)).alloc (.cells #[.int .i64 0, .int .i64 0, .int .i64 0] 30)).heap[w1.heap.size + 1]? = some (.cells #[.int .i64 0, .int .i64 0, .int .i64 0] 30 (0, 0))) := alloc2_1 w1 _ _
  have HBw1 : Hid (Below w.heap.size w ((w1.alloc (.cells #[.int .i64 0, .string ⟨#[115]⟩, .int .i64 7, .slice none 0 0, .slice none 0 0, .slice none 0 0, .slice none 0 0] 28)).alloc (.cells #[.int .i64 0, .int .i64 0, .int .i64 0] 30))) := HB1.out.trans (HBW.out.mono HB1.out.size)
  have hcv := convert_lit ((w1.alloc (.cells #[.int .i64 0, .string ⟨#[115]⟩, .int .i64 7, .slice none 0 0, .slice none 0 0, .slice none 0 0, .slice none 0 0] 28)).alloc (.cells #[.int .i64 0, .int .i64 0, .int .i64 0] 30)) zsB #[.int .u8 10, .int .u8 115, .int .u8 121, .int .u8 115, .int .u8 116, .int .u8 101, .int .u8 109, .int .u8 32, .int .u8 115, .int .u8 32, .int .u8 123, .int .u8 32, .int .u8 114, .int .u8 120] rfl
  have hb1 : Below ((w1.alloc (.cells #[.int .i64 0, .string ⟨#[115]⟩, .int .i64 7, .slice none 0 0, .slice none 0 0, .slice none 0 0, .slice none 0 0] 28)).alloc (.cells #[.int .i64 0, .int .i64 0, .int .i64 0] 30)).heap.size ((w1.alloc (.cells #[.int .i64 0, .string ⟨#[115]⟩, .int .i64 7, .slice none 0 0, .slice none 0 0, .slice none 0 0, .slice none 0 0] 28)).alloc (.cells #[.int .i64 0, .int .i64 0, .int .i64 0] 30)) (((w1.alloc (.cells #[.int .i64 0, .string ⟨#[115]⟩, .int .i64 7, .slice none 0 0, .slice none 0 0, .slice none 0 0, .slice none 0 0] 28)).alloc (.cells #[.int .i64 0, .int .i64 0, .int .i64 0] 30)).alloc (.cells #[.int .u8 10, .int .u8 115, .int .u8 121, .int .u8 115, .int .u8 116, .int .u8 101, .int .u8 109, .int .u8 32, .int .u8 115, .int .u8 32, .int .u8 123, .int .u8 32, .int .u8 114, .int .u8 120] 5 (14, 15))) := (Below.refl _ _).alloc (Nat.le_refl _) _
  have hA := parse_B ((HT.out.below HBw1.out).below hb1) (sl_lit ((w1.alloc (.cells #[.int .i64 0, .string ⟨#[115]⟩, .int .i64 7, .slice none 0 0, .slice none 0 0, .slice none 0 0, .slice none 0 0] 28)).alloc (.cells #[.int .i64 0, .int .i64 0, .int .i64 0] 30)) zsB (14, 15) (by decide) (by decide)) (by decide) (by simp) (Nat.le_trans h9 (Nat.le_trans HBw1.out.size hb1.size))
  have HB2 : Hid (Below w.heap.size w (((w1.alloc (.cells #[.int .i64 0, .string ⟨#[115]⟩, .int .i64 7, .slice none 0 0, .slice none 0 0, .slice none 0 0, .slice none 0 0] 28)).alloc (.cells #[.int .i64 0, .int .i64 0, .int .i64 0] 30)).alloc (.cells #[.int .u8 10, .int .u8 115, .int .u8 121, .int .u8 115, .int .u8 116, .int .u8 101, .int .u8 109, .int .u8 32, .int .u8 115, .int .u8 32, .int .u8 123, .int .u8 32, .int .u8 114, .int .u8 120] 5 (14, 15)))) := HBw1.out.alloc HBw1.out.size _
  have HB3 : Hid (Below ((w1.alloc (.cells #[.int .i64 0, .string ⟨#[115]⟩, .int .i64 7, .slice none 0 0, .slice none 0 0, .slice none 0 0, .slice none 0 0] 28)).alloc (.cells #[.int .i64 0, .int .i64 0, .int .i64 0] 30)).heap.size ((w1.alloc (.cells #[.int .i64 0, .string ⟨#[115]⟩, .int .i64 7, .slice none 0 0, .slice none 0 0, .slice none 0 0, .slice none 0 0] 28)).alloc (.cells #[.int .i64 0, .int .i64 0, .int .i64 0] 30)) (((w1.alloc (.cells #[.int .i64 0, .string ⟨#[115]⟩, .int .i64 7, .slice none 0 0, .slice none 0 0, .slice none 0 0, .slice none 0 0] 28)).alloc (.cells #[.int .i64 0, .int .i64 0, .int .i64 0] 30)).alloc (.cells #[.int .u8 10, .int .u8 115, .int .u8 121, .int .u8 115, .int .u8 116, .int .u8 101, .int .u8 109, .int .u8 32, .int .u8 115, .int .u8 32, .int .u8 123, .int .u8 32, .int .u8 114, .int .u8 120] 5 (14, 15)))) := hb1
  rw [hz1] at hcv hA
  have HA := Lib.hid hA
  simp only [zsB, List.length_cons, List.length_nil] at hcv
  clear hA hb1 hz1
  go_wp2_with fail
  refine HA.out.mono ?_
  rintro e w2 ⟨rfl, hb2⟩
  unfold treeZ
  clear hcv HA
  have HB4 := Lib.hid hb2
  clear hb2
  go_wp2_with fail
  have HB5 : Hid (Below w.heap.size w w2) := HB2.out.trans (HB4.out.mono HB2.out.size)
  have HBV : Hid (Below w2.heap.size w2 ((w2.alloc (.cells #[.int .i64 0, .string ⟨#[]⟩, .int .i64 0, .slice none 0 0, .slice none 0 0, .slice none 0 0, .slice none 0 0] 28)).alloc (.cells #[.int .i64 13, .int .i64 2, .int .i64 13] 30))) := ((Below.refl _ _).alloc (Nat.le_refl _) _).alloc (by simp) _
  have HB6 : Hid (Below w.heap.size w ((w2.alloc (.cells #[.int .i64 0, .string ⟨#[]⟩, .int .i64 0, .slice none 0 0, .slice none 0 0, .slice none 0 0, .slice none 0 0] 28)).alloc (.cells #[.int .i64 13, .int .i64 2, .int .i64 13] 30))) := HB5.out.trans (HBV.out.mono HB5.out.size)
  have HQ1 : Hid (((w2.alloc (.cells #[.int .i64 0, .string ⟨#[]⟩, .int .i64 0, .slice none 0 0, .slice none 0 0, .slice none 0 0, .slice none 0 0] 28)).alloc (.cells #[.int .i64 13, .int .i64 2, .int .i64 13] 30)).heap[w2.heap.size]? = some (.cells #[.int .i64 0, .string ⟨#[]⟩, .int .i64 0, .slice none 0 0, .slice none 0 0, .slice none 0 0, .slice none 0 0] 28 (0, 0))) := alloc2_0 w2 _ _
  have HQ2 : Hid (((w2.alloc (.cells #[.int .i64 0, .string ⟨#[]⟩, .int .i64 0, .slice none 0 0, .slice none 0 0, .slice none 0 0, .slice none 0 0] 28)).alloc (.cells #[.int .i64 13, .int .i64 2, .int .i64 13] 30)).heap[w2.heap.size + 1]? = some (.cells #[.int .i64 13, .int .i64 2, .int .i64 13] 30 (0, 0))) := alloc2_1 w2 _ _
  have HBW2 : Hid (Below ((w1.alloc (.cells #[.int .i64 0, .string ⟨#[115]⟩, .int .i64 7, .slice none 0 0, .slice none 0 0, .slice none 0 0, .slice none 0 0] 28)).alloc (.cells #[.int .i64 0, .int .i64 0, .int .i64 0] 30)).heap.size ((w1.alloc (.cells #[.int .i64 0, .string ⟨#[115]⟩, .int .i64 7, .slice none 0 0, .slice none 0 0, .slice none 0 0, .slice none 0 0] 28)).alloc (.cells #[.int .i64 0, .int .i64 0, .int .i64 0] 30)) w2) := HB3.out.trans (HB4.out.mono HB3.out.size)
  refine (parse_N (HT.out.below HB6.out) (Nat.le_trans h9 HB6.out.size)).mono ?_
  rintro e w3 ⟨rfl, hb3⟩
  have HB7 := Lib.hid hb3
  have hs1 : ((w1.alloc (.cells #[.int .i64 0, .string ⟨#[115]⟩, .int .i64 7, .slice none 0 0, .slice none 0 0, .slice none 0 0, .slice none 0 0] 28)).alloc (.cells #[.int .i64 0, .int .i64 0, .int .i64 0] 30)).heap.size = w1.heap.size + 2 := by simp
  have hs2 : ((w2.alloc (.cells #[.int .i64 0, .string ⟨#[]⟩, .int .i64 0, .slice none 0 0, .slice none 0 0, .slice none 0 0, .slice none 0 0] 28)).alloc (.cells #[.int .i64 13, .int .i64 2, .int .i64 13] 30)).heap.size = w2.heap.size + 2 := by simp
  have hs3 : w1.heap.size + 2 ≤ w2.heap.size := hs1 ▸ HBW2.out.size
  have hs4 : w2.heap.size + 2 ≤ w3.heap.size := hs2 ▸ hb3.size
  have hbx : Below w3.heap.size w3 ((w3.alloc (.cells #[.int .i64 0, .string ⟨#[]⟩, .int .i64 0, .slice none 0 0, .slice none 0 0, .slice none 0 0, .slice none 0 0] 28)).alloc (.cells #[.int .i64 0, .int .i64 1, .int .i64 1] 30)) := ((Below.refl _ _).alloc (Nat.le_refl _) _).alloc (by simp) _
  have r1 : ((w3.alloc (.cells #[.int .i64 0, .string ⟨#[]⟩, .int .i64 0, .slice none 0 0, .slice none 0 0, .slice none 0 0, .slice none 0 0] 28)).alloc (.cells #[.int .i64 0, .int .i64 1, .int .i64 1] 30)).heap[w1.heap.size]? = some (.cells #[.int .i64 0, .string ⟨#[115]⟩, .int .i64 7, .slice none 0 0, .slice none 0 0, .slice none 0 0, .slice none 0 0] 28 (0, 0)) := below_at hbx (by omega) (below_at hb3 (by omega) (below_at HBV.out (by omega) (below_at HBW2.out (by omega) HT1.out)))
  have r2 : ((w3.alloc (.cells #[.int .i64 0, .string ⟨#[]⟩, .int .i64 0, .slice none 0 0, .slice none 0 0, .slice none 0 0, .slice none 0 0] 28)).alloc (.cells #[.int .i64 0, .int .i64 1, .int .i64 1] 30)).heap[w1.heap.size + 1]? = some (.cells #[.int .i64 0, .int .i64 0, .int .i64 0] 30 (0, 0)) := below_at hbx (by omega) (below_at hb3 (by omega) (below_at HBV.out (by omega) (below_at HBW2.out (by omega) HP1.out)))
  have r3 : ((w3.alloc (.cells #[.int .i64 0, .string ⟨#[]⟩, .int .i64 0, .slice none 0 0, .slice none 0 0, .slice none 0 0, .slice none 0 0] 28)).alloc (.cells #[.int .i64 0, .int .i64 1, .int .i64 1] 30)).heap[w2.heap.size]? = some (.cells #[.int .i64 0, .string ⟨#[]⟩, .int .i64 0, .slice none 0 0, .slice none 0 0, .slice none 0 0, .slice none 0 0] 28 (0, 0)) := below_at hbx (by omega) (below_at hb3 (by omega) HQ1.out)
  have r4 : ((w3.alloc (.cells #[.int .i64 0, .string ⟨#[]⟩, .int .i64 0, .slice none 0 0, .slice none 0 0, .slice none 0 0, .slice none 0 0] 28)).alloc (.cells #[.int .i64 0, .int .i64 1, .int .i64 1] 30)).heap[w2.heap.size + 1]? = some (.cells #[.int .i64 13, .int .i64 2, .int .i64 13] 30 (0, 0)) := below_at hbx (by omega) (below_at hb3 (by omega) HQ2.out)
  have r5 : ((w3.alloc (.cells #[.int .i64 0, .string ⟨#[]⟩, .int .i64 0, .slice none 0 0, .slice none 0 0, .slice none 0 0, .slice none 0 0] 28)).alloc (.cells #[.int .i64 0, .int .i64 1, .int .i64 1] 30)).heap[w3.heap.size + 1]? = some (.cells #[.int .i64 0, .int .i64 1, .int .i64 1] 30 (0, 0)) := alloc2_1 w3 _ _
  have c1 : ((w3.alloc (.cells #[.int .i64 0, .string ⟨#[]⟩, .int .i64 0, .slice none 0 0, .slice none 0 0, .slice none 0 0, .slice none 0 0] 28)).alloc (.cells #[.int .i64 0, .int .i64 1, .int .i64 1] 30)).cell? ⟨w1.heap.size + 1, 0, none⟩ = some (.int .i64 0) := cell_of_row _ _ 0 _ _ _ r2
  have c2 : ((w3.alloc (.cells #[.int .i64 0, .string ⟨#[]⟩, .int .i64 0, .slice none 0 0, .slice none 0 0, .slice none 0 0, .slice none 0 0] 28)).alloc (.cells #[.int .i64 0, .int .i64 1, .int .i64 1] 30)).cell? ⟨w1.heap.size + 1, 1, none⟩ = some (.int .i64 0) := cell_of_row _ _ 1 _ _ _ r2
  have c3 : ((w3.alloc (.cells #[.int .i64 0, .string ⟨#[]⟩, .int .i64 0, .slice none 0 0, .slice none 0 0, .slice none 0 0, .slice none 0 0] 28)).alloc (.cells #[.int .i64 0, .int .i64 1, .int .i64 1] 30)).cell? ⟨w1.heap.size + 1, 2, none⟩ = some (.int .i64 0) := cell_of_row _ _ 2 _ _ _ r2
  have c4 : ((w3.alloc (.cells #[.int .i64 0, .string ⟨#[]⟩, .int .i64 0, .slice none 0 0, .slice none 0 0, .slice none 0 0, .slice none 0 0] 28)).alloc (.cells #[.int .i64 0, .int .i64 1, .int .i64 1] 30)).cell? ⟨w2.heap.size + 1, 0, none⟩ = some (.int .i64 13) := cell_of_row _ _ 0 _ _ _ r4
  have c5 : ((w3.alloc (.cells #[.int .i64 0, .string ⟨#[]⟩, .int .i64 0, .slice none 0 0, .slice none 0 0, .slice none 0 0, .slice none 0 0] 28)).alloc (.cells #[.int .i64 0, .int .i64 1, .int .i64 1] 30)).cell? ⟨w2.heap.size + 1, 1, none⟩ = some (.int .i64 2) := cell_of_row _ _ 1 _ _ _ r4
  have c6 : ((w3.alloc (.cells #[.int .i64 0, .string ⟨#[]⟩, .int .i64 0, .slice none 0 0, .slice none 0 0, .slice none 0 0, .slice none 0 0] 28)).alloc (.cells #[.int .i64 0, .int .i64 1, .int .i64 1] 30)).cell? ⟨w2.heap.size + 1, 2, none⟩ = some (.int .i64 13) := cell_of_row _ _ 2 _ _ _ r4
  have c7 : ((w3.alloc (.cells #[.int .i64 0, .string ⟨#[]⟩, .int .i64 0, .slice none 0 0, .slice none 0 0, .slice none 0 0, .slice none 0 0] 28)).alloc (.cells #[.int .i64 0, .int .i64 1, .int .i64 1] 30)).cell? ⟨w3.heap.size + 1, 0, none⟩ = some (.int .i64 0) := cell_of_row _ _ 0 _ _ _ r5
  have c8 : ((w3.alloc (.cells #[.int .i64 0, .string ⟨#[]⟩, .int .i64 0, .slice none 0 0, .slice none 0 0, .slice none 0 0, .slice none 0 0] 28)).alloc (.cells #[.int .i64 0, .int .i64 1, .int .i64 1] 30)).cell? ⟨w3.heap.size + 1, 1, none⟩ = some (.int .i64 1) := cell_of_row _ _ 1 _ _ _ r5
  have c9 : ((w3.alloc (.cells #[.int .i64 0, .string ⟨#[]⟩, .int .i64 0, .slice none 0 0, .slice none 0 0, .slice none 0 0, .slice none 0 0] 28)).alloc (.cells #[.int .i64 0, .int .i64 1, .int .i64 1] 30)).cell? ⟨w3.heap.size + 1, 2, none⟩ = some (.int .i64 1) := cell_of_row _ _ 2 _ _ _ r5
  have c10 : ((w3.alloc (.cells #[.int .i64 0, .string ⟨#[]⟩, .int .i64 0, .slice none 0 0, .slice none 0 0, .slice none 0 0, .slice none 0 0] 28)).alloc (.cells #[.int .i64 0, .int .i64 1, .int .i64 1] 30)).cell? ⟨w1.heap.size, 0, none⟩ = some (.int .i64 0) := cell_of_row _ _ 0 _ _ _ r1
  have c11 : ((w3.alloc (.cells #[.int .i64 0, .string ⟨#[]⟩, .int .i64 0, .slice none 0 0, .slice none 0 0, .slice none 0 0, .slice none 0 0] 28)).alloc (.cells #[.int .i64 0, .int .i64 1, .int .i64 1] 30)).cell? ⟨w1.heap.size, 1, none⟩ = some (.string ⟨#[115]⟩) := cell_of_row _ _ 1 _ _ _ r1
  have c12 : ((w3.alloc (.cells #[.int .i64 0, .string ⟨#[]⟩, .int .i64 0, .slice none 0 0, .slice none 0 0, .slice none 0 0, .slice none 0 0] 28)).alloc (.cells #[.int .i64 0, .int .i64 1, .int .i64 1] 30)).cell? ⟨w1.heap.size, 2, none⟩ = some (.int .i64 7) := cell_of_row _ _ 2 _ _ _ r1
  have c13 : ((w3.alloc (.cells #[.int .i64 0, .string ⟨#[]⟩, .int .i64 0, .slice none 0 0, .slice none 0 0, .slice none 0 0, .slice none 0 0] 28)).alloc (.cells #[.int .i64 0, .int .i64 1, .int .i64 1] 30)).cell? ⟨w1.heap.size, 3, none⟩ = some (.slice none 0 0) := cell_of_row _ _ 3 _ _ _ r1
  have c14 : ((w3.alloc (.cells #[.int .i64 0, .string ⟨#[]⟩, .int .i64 0, .slice none 0 0, .slice none 0 0, .slice none 0 0, .slice none 0 0] 28)).alloc (.cells #[.int .i64 0, .int .i64 1, .int .i64 1] 30)).cell? ⟨w1.heap.size, 4, none⟩ = some (.slice none 0 0) := cell_of_row _ _ 4 _ _ _ r1
  have c15 : ((w3.alloc (.cells #[.int .i64 0, .string ⟨#[]⟩, .int .i64 0, .slice none 0 0, .slice none 0 0, .slice none 0 0, .slice none 0 0] 28)).alloc (.cells #[.int .i64 0, .int .i64 1, .int .i64 1] 30)).cell? ⟨w1.heap.size, 5, none⟩ = some (.slice none 0 0) := cell_of_row _ _ 5 _ _ _ r1
  have c16 : ((w3.alloc (.cells #[.int .i64 0, .string ⟨#[]⟩, .int .i64 0, .slice none 0 0, .slice none 0 0, .slice none 0 0, .slice none 0 0] 28)).alloc (.cells #[.int .i64 0, .int .i64 1, .int .i64 1] 30)).cell? ⟨w1.heap.size, 6, none⟩ = some (.slice none 0 0) := cell_of_row _ _ 6 _ _ _ r1
  have c17 : ((w3.alloc (.cells #[.int .i64 0, .string ⟨#[]⟩, .int .i64 0, .slice none 0 0, .slice none 0 0, .slice none 0 0, .slice none 0 0] 28)).alloc (.cells #[.int .i64 0, .int .i64 1, .int .i64 1] 30)).cell? ⟨w2.heap.size, 0, none⟩ = some (.int .i64 0) := cell_of_row _ _ 0 _ _ _ r3
  have c18 : ((w3.alloc (.cells #[.int .i64 0, .string ⟨#[]⟩, .int .i64 0, .slice none 0 0, .slice none 0 0, .slice none 0 0, .slice none 0 0] 28)).alloc (.cells #[.int .i64 0, .int .i64 1, .int .i64 1] 30)).cell? ⟨w2.heap.size, 1, none⟩ = some (.string ⟨#[]⟩) := cell_of_row _ _ 1 _ _ _ r3
  have c19 : ((w3.alloc (.cells #[.int .i64 0, .string ⟨#[]⟩, .int .i64 0, .slice none 0 0, .slice none 0 0, .slice none 0 0, .slice none 0 0] 28)).alloc (.cells #[.int .i64 0, .int .i64 1, .int .i64 1] 30)).cell? ⟨w2.heap.size, 2, none⟩ = some (.int .i64 0) := cell_of_row _ _ 2 _ _ _ r3
  have c20 : ((w3.alloc (.cells #[.int .i64 0, .string ⟨#[]⟩, .int .i64 0, .slice none 0 0, .slice none 0 0, .slice none 0 0, .slice none 0 0] 28)).alloc (.cells #[.int .i64 0, .int .i64 1, .int .i64 1] 30)).cell? ⟨w2.heap.size, 3, none⟩ = some (.slice none 0 0) := cell_of_row _ _ 3 _ _ _ r3
  have c21 : ((w3.alloc (.cells #[.int .i64 0, .string ⟨#[]⟩, .int .i64 0, .slice none 0 0, .slice none 0 0, .slice none 0 0, .slice none 0 0] 28)).alloc (.cells #[.int .i64 0, .int .i64 1, .int .i64 1] 30)).cell? ⟨w2.heap.size, 4, none⟩ = some (.slice none 0 0) := cell_of_row _ _ 4 _ _ _ r3
  have c22 : ((w3.alloc (.cells #[.int .i64 0, .string ⟨#[]⟩, .int .i64 0, .slice none 0 0, .slice none 0 0, .slice none 0 0, .slice none 0 0] 28)).alloc (.cells #[.int .i64 0, .int .i64 1, .int .i64 1] 30)).cell? ⟨w2.heap.size, 5, none⟩ = some (.slice none 0 0) := cell_of_row _ _ 5 _ _ _ r3
  have c23 : ((w3.alloc (.cells #[.int .i64 0, .string ⟨#[]⟩, .int .i64 0, .slice none 0 0, .slice none 0 0, .slice none 0 0, .slice none 0 0] 28)).alloc (.cells #[.int .i64 0, .int .i64 1, .int .i64 1] 30)).cell? ⟨w2.heap.size, 6, none⟩ = some (.slice none 0 0) := cell_of_row _ _ 6 _ _ _ r3
  clear r1 r2 r3 r4 r5
  clear hb3 hbx hs1 hs2 hs3 hs4
  unfold treeZ
  go_wp2_with fail
  go_ret
  exact ⟨rfl, ((HB6.out.trans (HB7.out.mono HB6.out.size)).alloc (HB6.out.trans (HB7.out.mono HB6.out.size)).size _).alloc (by have := (HB6.out.trans (HB7.out.mono HB6.out.size)).size; simp; omega) _⟩
end Go.Proofs.YtmkibolkcjallaaGreatDoor
