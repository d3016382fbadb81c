/- known. -/
import Derived.Test.YtlhecgokedckdaaDoorScForty
namespace Go.Proofs.YtlhecgokedckdaaDoor
open Go.RowKit Sc
theorem push_modify (a : Array Obj) (x : Obj) (f : Obj → Obj) : (a.push x).modify a.size f = a.push (f x) := by
  refine Array.ext (by simp) fun i h1 h2 => ?_
  rw [Array.getElem_modify]
  by_cases h : a.size = i
  · subst h
    simp
  · rw [if_neg h, Array.getElem_push, Array.getElem_push, dif_pos (by simp at h1; omega), dif_pos (by simp at h1; omega)]
/-- []byte of a constant -/
theorem convert_lit (w : World) (L : List Nat) (cs : Array Value) (hcs : cs.size = L.length) : (convert 28 28 (.slice (some ⟨w.heap.size, 0, none⟩) L.length L.length)).run Tryd.prog (w.alloc (.cells cs 5)) = .ok (.slice (some ⟨w.heap.size, 0, none⟩) L.length L.length) (w.alloc (.cells cs 5 (L.length, L.length + 1))) := by
  have hh : (w.alloc (.cells cs 5)).heap[w.heap.size]? = some (.cells cs 5) := heap_alloc_new w _
  have hs : (w.alloc (.cells cs 5)).shape? w.heap.size = some (5, L.length) := by
    unfold World.shape?
    rw [hh]
    simp [hcs]
  have hf : (w.alloc (.cells cs 5)).freeze ⟨w.heap.size, L.length, none⟩ 1 = w.alloc (.cells cs 5 (L.length, L.length + 1)) := by
    unfold World.freeze
    rw [if_neg (by decide)]
    show ({ w.alloc (.cells cs 5) with heap := (w.heap.push (.cells cs 5)).modify w.heap.size _ } : World) = _
    rw [push_modify]
    rfl
  simp [convert, run_underlying Tryd.underlying28, run_underlying Tryd.underlying5, markStringish, hs]
  exact hf
theorem sl_lit (w : World) (L : List Nat) (fr : Nat × Nat) (hL : ∀ z ∈ L, z < 256) (hl : L.length ≤ 1000) : Sl (w.alloc (.cells (bvs L).toArray 5 fr)) (.slice (some ⟨w.heap.size, 0, none⟩) L.length L.length) L := by
  have hr : (w.alloc (.cells (bvs L).toArray 5 fr)).heap[w.heap.size]? = some (.cells (bvs L).toArray 5 fr) := heap_alloc_new w _
  refine ⟨some ⟨w.heap.size, 0, none⟩, L.length, rfl, Nat.le_refl _, by unfold maxLen; omega, hL, by simp, fun i hi => ⟨_, _, rfl, ?_⟩⟩
  rw [Nat.zero_add, cell_of_row _ _ i _ _ _ hr]
  simpa using bvs_get L i hi
/-- the bytes of "a ..", of "a . b" -/
def txtA : List Nat := [97, 32, 46, 46]
def txtB : List Nat := [97, 32, 46, 32, 98]
theorem toksA : Sc.tokens txtA = ([⟨1, 0, [97], 0, 1⟩, ⟨12, 0, [], 2, 4⟩], 0, 0) := by decide +kernel
theorem toksB : Sc.tokens txtB = ([], 3, 60) := by decide +kernel
theorem OwnT.cells {w : World} {base : Nat} {v : Value} {ts : List Tok} (h : OwnT w base v ts) (hp : 0 < ts.length) : ∃ g cap, v = .slice (some ⟨g, 0, none⟩) ts.length cap ∧ ts.length ≤ cap ∧ cap ≤ maxLen ∧ base ≤ g ∧ g < w.heap.size ∧ ∀ j i, (hj : j < ts.length) → i < 5 → w.cell? ⟨g, j * 5 + i, none⟩ = (encT ts[j])[i]? := by
  rcases h.2 with ⟨_, h0⟩ | ⟨g, cap, cur, rfl, hb, hg, hnc, hcm, hcs, ht⟩
  · omega
  · refine ⟨g, cap, rfl, hnc, hcm, hb, (Array.getElem?_eq_some_iff.1 hg).1, fun j i hj hi => ?_⟩
    rw [cell_of_row w g _ _ _ _ hg, ← Array.getElem?_toList, ← encTs_get ts j i hj hi, ← ht, List.getElem?_take_of_lt (by omega)]
set_option maxRecDepth 100000 in
set_option maxHeartbeats 1000000 in
theorem known_any {w : World} (ht : Tabs w) (h9 : 9 ≤ w.heap.size) : Calls Tryd.prog 18 #[] w fun e w' => e = .returned (.bool true) ∧ Below w.heap.size w w' := by
  have HT : Hid (Tabs w) := ht
  clear ht
  have hcv := convert_lit w txtA #[.int .u8 97, .int .u8 32, .int .u8 46, .int .u8 46] rfl
  have hA0 := sl_lit w txtA (4, 5) (by decide) (by decide)
  have hb0 : Below w.heap.size w (w.alloc (.cells #[.int .u8 97, .int .u8 32, .int .u8 46, .int .u8 46] 5 (4, 5))) := (Below.refl _ _).alloc (Nat.le_refl _) _
  have HA : Hid (Calls Tryd.prog 4 #[.slice (some ⟨w.heap.size, 0, none⟩) 4 4] (w.alloc (.cells #[.int .u8 97, .int .u8 32, .int .u8 46, .int .u8 46] 5 (4, 5))) fun e w' => ∃ lv, e = .returned (.tuple #[lv, .int .i64 0, .int .i64 0]) ∧ OwnT w' w.heap.size lv [⟨1, 0, [97], 0, 1⟩, ⟨12, 0, [], 2, 4⟩] ∧ Below w.heap.size w w') := by
    have hx := tokens_any (w := w.alloc (.cells #[.int .u8 97, .int .u8 32, .int .u8 46, .int .u8 46] 5 (4, 5))) (HT.out.below hb0) hA0 (fun k hk => by cases hk; simp) (by simp; omega)
    rw [toksA] at hx
    refine hx.mono ?_
    rintro e w' ⟨lv, rfl, ho, hb⟩
    have hb' : Below w.heap.size w w' := hb0.trans (hb.mono (by simp))
    exact ⟨lv, rfl, ⟨ho.1, ho.2.imp id (fun ⟨g, c, cur, a1, a2, a3⟩ => ⟨g, c, cur, a1, by simp at a2; omega, a3⟩)⟩, hb'⟩
  simp only [txtA, List.length_cons, List.length_nil] at hcv
  clear hA0 hb0
  go_enter Tryd.func18, Tryd.ntmps18
  go_wp2_with fail
  refine HA.out.mono ?_
  rintro e w1 ⟨lv, rfl, ho, hb⟩
  clear hcv HA
  have HO : Hid (OwnT w1 w.heap.size lv [⟨1, 0, [97], 0, 1⟩, ⟨12, 0, [], 2, 4⟩]) := ho
  have HB : Hid (Below w.heap.size w w1) := hb
  clear ho hb
  have hcv := convert_lit w1 txtB #[.int .u8 97, .int .u8 32, .int .u8 46, .int .u8 32, .int .u8 98] rfl
  have hA0 := sl_lit w1 txtB (5, 6) (by decide) (by decide)
  have hb0 : Below w1.heap.size w1 (w1.alloc (.cells #[.int .u8 97, .int .u8 32, .int .u8 46, .int .u8 32, .int .u8 98] 5 (5, 6))) := (Below.refl _ _).alloc (Nat.le_refl _) _
  have h91 : 9 ≤ w1.heap.size := Nat.le_trans h9 HB.out.size
  have HA : Hid (Calls Tryd.prog 4 #[.slice (some ⟨w1.heap.size, 0, none⟩) 5 5] (w1.alloc (.cells #[.int .u8 97, .int .u8 32, .int .u8 46, .int .u8 32, .int .u8 98] 5 (5, 6))) fun e w' => ∃ a c, e = .returned (.tuple #[.slice a 0 c, .int .i64 3, .int .i64 60]) ∧ Below w1.heap.size w1 w') := by
    have hx := tokens_any (w := w1.alloc (.cells #[.int .u8 97, .int .u8 32, .int .u8 46, .int .u8 32, .int .u8 98] 5 (5, 6))) ((HT.out.below HB.out).below hb0) hA0 (fun k hk => by cases hk; simp) (by simp; omega)
    rw [toksB] at hx
    refine hx.mono ?_
    rintro e w' ⟨lv2, rfl, ho2, hb2⟩
    obtain ⟨a, c, rfl⟩ := ho2.form
    exact ⟨a, c, rfl, hb0.trans (hb2.mono (by simp))⟩
  simp only [txtB, List.length_cons, List.length_nil] at hcv
  clear hA0 hb0
  go_wp2_with fail
  refine HA.out.mono ?_
  rintro e w2 ⟨ma, mc, rfl, hb2⟩
  clear hcv HA
  obtain ⟨g, cap, rfl, hg1, hg2, hg3, hg4, hg5⟩ := HO.out.cells (by decide)
  have HB2 : Hid (Below w.heap.size w w2) := HB.out.trans (hb2.mono HB.out.size)
  have d0 : w2.cell? ⟨g, 2, none⟩ = some (.string ⟨#[97]⟩) := (hb2.cell (p := ⟨g, 2, none⟩) hg4).trans (hg5 0 2 (by decide) (by decide))
  have d1 : w2.cell? ⟨g, 5, none⟩ = some (.int .i64 12) := (hb2.cell (p := ⟨g, 5, none⟩) hg4).trans (hg5 1 0 (by decide) (by decide))
  have HRes : Hid (∀ W, Below w.heap.size w W → Calls Tryd.prog 27 #[.string ⟨#[109, 97, 115, 116, 101, 114]⟩] W fun e w' => e = .returned (.int .i64 73) ∧ w' = W) := fun W hW => by
    have := reserved_any ⟨#[109, 97, 115, 116, 101, 114]⟩ (HT.out.below hW)
    rwa [show Sc.reservedF (sb ⟨#[109, 97, 115, 116, 101, 114]⟩) = 73 from by decide +kernel] at this
  have HL1 : Hid (∀ W, Below w.heap.size w W → Calls Tryd.prog 28 #[.string ⟨#[97, 95, 49]⟩] W fun e w' => e = .returned (.bool true) ∧ w' = W) := fun W hW => by
    have := legal_any ⟨#[97, 95, 49]⟩ (HT.out.below hW)
    rwa [show Sc.legalF (sb ⟨#[97, 95, 49]⟩) = true from by decide +kernel] at this
  have HL2 : Hid (∀ W, Below w.heap.size w W → Calls Tryd.prog 28 #[.string ⟨#[97, 116]⟩] W fun e w' => e = .returned (.bool false) ∧ w' = W) := fun W hW => by
    have := legal_any ⟨#[97, 116]⟩ (HT.out.below hW)
    rwa [show Sc.legalF (sb ⟨#[97, 116]⟩) = false from by decide +kernel] at this
  have HNa : Hid (∀ W, Below w.heap.size w W → Calls Tryd.prog 29 #[.string ⟨#[97, 46, 48, 46, 49, 55]⟩] W fun e w' => e = .returned (.bool true) ∧ Below W.heap.size W w') := fun W hW => by
    have := named_any ⟨#[97, 46, 48, 46, 49, 55]⟩ (HT.out.below hW)
    rwa [show Sc.namedF (sb ⟨#[97, 46, 48, 46, 49, 55]⟩) = true from by decide +kernel] at this
  have HQu : Hid (∀ W, Calls Tryd.prog 8 #[.string ⟨#[97, 10]⟩] W fun e w' => ∃ v, e = .returned v ∧ Own w' W.heap.size v [34, 97, 92, 110, 34] ∧ Below W.heap.size W w') := fun W => by
    have := quote_any ⟨#[97, 10]⟩ (by decide) W
    rwa [show Sc.quoteF (sb ⟨#[97, 10]⟩) = [34, 97, 92, 110, 34] from by decide +kernel] at this
  clear hg5 hb2 hg3 hg4
  go_wp2_with fail
  refine (HRes.out _ HB2.out).mono ?_
  rintro e w3 ⟨rfl, rfl⟩
  go_wp2_with fail
  refine (HL1.out _ HB2.out).mono ?_
  rintro e w3 ⟨rfl, rfl⟩
  go_wp2_with fail
  refine (HL2.out _ HB2.out).mono ?_
  rintro e w3 ⟨rfl, rfl⟩
  go_wp2_with fail
  refine (HNa.out _ HB2.out).mono ?_
  rintro e w4 ⟨rfl, hb4⟩
  have HB4 : Hid (Below w.heap.size w w4) := HB2.out.trans (hb4.mono HB2.out.size)
  clear hb4 d0 d1
  go_wp2_with fail
  refine (number40 _).mono ?_
  rintro e w5 ⟨v5, rfl, ho5, hb5⟩
  have HB5 : Hid (Below w.heap.size w w5) := HB4.out.trans (hb5.mono HB4.out.size)
  have hcv := conv_str (ho5.sl (by decide))
  have q40 : ((mkS [52, 48]).toList == [52, 48]) = true := by rw [ByteArray.toList_eq]; decide
  clear ho5 hb5
  go_wp2_with fail
  refine (HQu.out _).mono ?_
  rintro e w6 ⟨v6, rfl, ho6, hb6⟩
  have HB6 : Hid (Below w.heap.size w w6) := HB5.out.trans (hb6.mono HB5.out.size)
  clear hcv
  have hcv := conv_str (ho6.sl (by decide))
  clear ho6 hb6
  go_wp2_with fail
  go_ret
  exact ⟨ret_bool (by rw [ByteArray.toList_eq]; decide), HB6.out⟩
end Go.Proofs.YtlhecgokedckdaaDoor
