/- Or, Meet, Less. Own work (made by a program). -/
import Derived.Test.YtogcpogoamoljaaSpMergeU8
namespace Go.Proofs.Ytogcpogoamoljaa.U8
open Go.RowKit Go.Shelf Go.Proofs.Ytogcpogoamoljaa.Sp


set_option maxHeartbeats 1000000 in
theorem or_any {w : World} {vs vt : Value} {s t : List Sp} (hs : SV w vs s) (ht : SV w vt t) (cs : Canon 255 s) (ct : Canon 255 t) (hl : s.length + t.length ≤ 274877906944) :
    Calls Try.prog 11 #[.agg #[vs], .agg #[vt]] w (SetPost w (Made 255 (fun a b => a || b) s t)) := by
  have HB : Hid (∀ a b c, Below w.heap.size w (((w.alloc a).alloc b).alloc c)) := fun a b c => (((Below.refl _ _).alloc (Nat.le_refl _) _).alloc (by simp) _).alloc (by simp; omega) _
  have HM : Hid (∀ a b c, Calls Try.prog 25 #[.agg #[vs], .agg #[vt], .func (.func 26) #[] #[]] (((w.alloc a).alloc b).alloc c) (SetPost (((w.alloc a).alloc b).alloc c) (Made 255 (fun a b => a || b) s t))) :=
    fun a b c => merge_any (enters_of Try.func26 (by kernel_rfl) rfl) or1 (hs.below (HB.out a b c) (Nat.le_refl _)) (ht.below (HB.out a b c) (Nat.le_refl _)) cs ct hl
  clear hs ht cs ct hl
  go_enter Try.func11, Try.ntmps11
  go_wp2_with fail
  refine (HM.out _ _ _).mono ?_
  rintro e w2 ⟨v2, rs, rfl, h2, hm2, hb2⟩
  obtain ⟨a2, n2, c2, hv2⟩ : ∃ a n c, v2 = .slice a n c := by
    obtain ⟨a, c, e, _⟩ := h2.sv
    exact ⟨a, _, c, e⟩
  subst hv2
  have H2 : Hid (Own w2 (w.heap.size + 1 + 1 + 1) (.slice a2 n2 c2) rs) := show Own w2 (w.heap.size + 1 + 1 + 1) (.slice a2 n2 c2) rs by simpa using h2
  have HM2 : Hid (Made 255 (fun a b => a || b) s t rs) := hm2
  have HB2 : Hid (Below (((w.alloc (Obj.cells #[vs] 25)).alloc (Obj.cells #[vt] 25)).alloc (Obj.cells #[Value.slice none 0 0] 25)).heap.size (((w.alloc (Obj.cells #[vs] 25)).alloc (Obj.cells #[vt] 25)).alloc (Obj.cells #[Value.slice none 0 0] 25)) w2) := hb2
  obtain ⟨hce, hfe⟩ : w2.cell? ⟨w.heap.size + 1 + 1, 0, none⟩ = some (.slice none 0 0) ∧ w2.frozen? ⟨w.heap.size + 1 + 1, 0, none⟩ = false := third_cell hb2
  clear h2 hm2 hb2
  go_wp2_with fail
  have d0 := World.cell?_setCell_same' w2 ⟨w.heap.size + 1 + 1, 0, none⟩ (.slice a2 n2 c2) (by rw [hce]; rfl)
  refine bodyPost_ret (v := .agg #[.slice a2 n2 c2]) (by simp [results, Try.results11, go_sem, d0]) rfl ?_
  exact ⟨_, rs, rfl, (H2.out.low (by omega) _ _).lower (by omega), HM2.out, ((HB.out _ _ _).trans (HB2.out.mono (HB.out _ _ _).size)).setCell (p := ⟨w.heap.size + 1 + 1, 0, none⟩) (by show w.heap.size ≤ w.heap.size + 1 + 1; omega) _⟩

set_option maxHeartbeats 1000000 in
theorem meet_any {w : World} {vs vt : Value} {s t : List Sp} (hs : SV w vs s) (ht : SV w vt t) (cs : Canon 255 s) (ct : Canon 255 t) (hl : s.length + t.length ≤ 274877906944) :
    Calls Try.prog 13 #[.agg #[vs], .agg #[vt]] w (SetPost w (Made 255 (fun a b => a && b) s t)) := by
  have HB : Hid (∀ a b c, Below w.heap.size w (((w.alloc a).alloc b).alloc c)) := fun a b c => (((Below.refl _ _).alloc (Nat.le_refl _) _).alloc (by simp) _).alloc (by simp; omega) _
  have HM : Hid (∀ a b c, Calls Try.prog 25 #[.agg #[vs], .agg #[vt], .func (.func 27) #[] #[]] (((w.alloc a).alloc b).alloc c) (SetPost (((w.alloc a).alloc b).alloc c) (Made 255 (fun a b => a && b) s t))) :=
    fun a b c => merge_any (enters_of Try.func27 (by kernel_rfl) rfl) meet1 (hs.below (HB.out a b c) (Nat.le_refl _)) (ht.below (HB.out a b c) (Nat.le_refl _)) cs ct hl
  clear hs ht cs ct hl
  go_enter Try.func13, Try.ntmps13
  go_wp2_with fail
  refine (HM.out _ _ _).mono ?_
  rintro e w2 ⟨v2, rs, rfl, h2, hm2, hb2⟩
  obtain ⟨a2, n2, c2, hv2⟩ : ∃ a n c, v2 = .slice a n c := by
    obtain ⟨a, c, e, _⟩ := h2.sv
    exact ⟨a, _, c, e⟩
  subst hv2
  have H2 : Hid (Own w2 (w.heap.size + 1 + 1 + 1) (.slice a2 n2 c2) rs) := show Own w2 (w.heap.size + 1 + 1 + 1) (.slice a2 n2 c2) rs by simpa using h2
  have HM2 : Hid (Made 255 (fun a b => a && b) s t rs) := hm2
  have HB2 : Hid (Below (((w.alloc (Obj.cells #[vs] 25)).alloc (Obj.cells #[vt] 25)).alloc (Obj.cells #[Value.slice none 0 0] 25)).heap.size (((w.alloc (Obj.cells #[vs] 25)).alloc (Obj.cells #[vt] 25)).alloc (Obj.cells #[Value.slice none 0 0] 25)) w2) := hb2
  obtain ⟨hce, hfe⟩ : w2.cell? ⟨w.heap.size + 1 + 1, 0, none⟩ = some (.slice none 0 0) ∧ w2.frozen? ⟨w.heap.size + 1 + 1, 0, none⟩ = false := third_cell hb2
  clear h2 hm2 hb2
  go_wp2_with fail
  have d0 := World.cell?_setCell_same' w2 ⟨w.heap.size + 1 + 1, 0, none⟩ (.slice a2 n2 c2) (by rw [hce]; rfl)
  refine bodyPost_ret (v := .agg #[.slice a2 n2 c2]) (by simp [results, Try.results13, go_sem, d0]) rfl ?_
  exact ⟨_, rs, rfl, (H2.out.low (by omega) _ _).lower (by omega), HM2.out, ((HB.out _ _ _).trans (HB2.out.mono (HB.out _ _ _).size)).setCell (p := ⟨w.heap.size + 1 + 1, 0, none⟩) (by show w.heap.size ≤ w.heap.size + 1 + 1; omega) _⟩

set_option maxHeartbeats 1000000 in
theorem less_any {w : World} {vs vt : Value} {s t : List Sp} (hs : SV w vs s) (ht : SV w vt t) (cs : Canon 255 s) (ct : Canon 255 t) (hl : s.length + t.length ≤ 274877906944) :
    Calls Try.prog 14 #[.agg #[vs], .agg #[vt]] w (SetPost w (Made 255 (fun a b => a && !b) s t)) := by
  have HB : Hid (∀ a b c, Below w.heap.size w (((w.alloc a).alloc b).alloc c)) := fun a b c => (((Below.refl _ _).alloc (Nat.le_refl _) _).alloc (by simp) _).alloc (by simp; omega) _
  have HM : Hid (∀ a b c, Calls Try.prog 25 #[.agg #[vs], .agg #[vt], .func (.func 28) #[] #[]] (((w.alloc a).alloc b).alloc c) (SetPost (((w.alloc a).alloc b).alloc c) (Made 255 (fun a b => a && !b) s t))) :=
    fun a b c => merge_any (enters_of Try.func28 (by kernel_rfl) rfl) less1 (hs.below (HB.out a b c) (Nat.le_refl _)) (ht.below (HB.out a b c) (Nat.le_refl _)) cs ct hl
  clear hs ht cs ct hl
  go_enter Try.func14, Try.ntmps14
  go_wp2_with fail
  refine (HM.out _ _ _).mono ?_
  rintro e w2 ⟨v2, rs, rfl, h2, hm2, hb2⟩
  obtain ⟨a2, n2, c2, hv2⟩ : ∃ a n c, v2 = .slice a n c := by
    obtain ⟨a, c, e, _⟩ := h2.sv
    exact ⟨a, _, c, e⟩
  subst hv2
  have H2 : Hid (Own w2 (w.heap.size + 1 + 1 + 1) (.slice a2 n2 c2) rs) := show Own w2 (w.heap.size + 1 + 1 + 1) (.slice a2 n2 c2) rs by simpa using h2
  have HM2 : Hid (Made 255 (fun a b => a && !b) s t rs) := hm2
  have HB2 : Hid (Below (((w.alloc (Obj.cells #[vs] 25)).alloc (Obj.cells #[vt] 25)).alloc (Obj.cells #[Value.slice none 0 0] 25)).heap.size (((w.alloc (Obj.cells #[vs] 25)).alloc (Obj.cells #[vt] 25)).alloc (Obj.cells #[Value.slice none 0 0] 25)) w2) := hb2
  obtain ⟨hce, hfe⟩ : w2.cell? ⟨w.heap.size + 1 + 1, 0, none⟩ = some (.slice none 0 0) ∧ w2.frozen? ⟨w.heap.size + 1 + 1, 0, none⟩ = false := third_cell hb2
  clear h2 hm2 hb2
  go_wp2_with fail
  have d0 := World.cell?_setCell_same' w2 ⟨w.heap.size + 1 + 1, 0, none⟩ (.slice a2 n2 c2) (by rw [hce]; rfl)
  refine bodyPost_ret (v := .agg #[.slice a2 n2 c2]) (by simp [results, Try.results14, go_sem, d0]) rfl ?_
  exact ⟨_, rs, rfl, (H2.out.low (by omega) _ _).lower (by omega), HM2.out, ((HB.out _ _ _).trans (HB2.out.mono (HB.out _ _ _).size)).setCell (p := ⟨w.heap.size + 1 + 1, 0, none⟩) (by show w.heap.size ≤ w.heap.size + 1 + 1; omega) _⟩
end Go.Proofs.Ytogcpogoamoljaa.U8
