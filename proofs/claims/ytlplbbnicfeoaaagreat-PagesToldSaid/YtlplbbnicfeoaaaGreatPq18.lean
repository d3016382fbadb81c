import Derived.Test.YtlplbbnicfeoaaaGreatPq17
/- Or, Meet, Less. Own work (made by a program). -/
namespace Go.Proofs.YtlplbbnicfeoaaaGreat.U64
open Go.RowKit Go.Shelf Go.Proofs.YtlplbbnicfeoaaaGreat.Sp


set_option maxHeartbeats 1000000 in
theorem or_any {w : World} {vs vt : Value} {s t : List Sp} (hs : SV w vs s) (ht : SV w vt t) (cs : Canon 18446744073709551615 s) (ct : Canon 18446744073709551615 t) (hl : s.length + t.length ≤ 274877906944) :
    Calls Tryz.prog 84 #[.agg #[vs], .agg #[vt]] w (SetPost w (Made 18446744073709551615 (fun a b => a || b) s t)) := by
  have HB : Hid (∀ a b c, Below w.heap.size w (((w.alloc a).alloc b).alloc c)) := fun a b c => (((Below.refl _ _).alloc (Nat.le_refl _) _).alloc (by simp) _).alloc (by simp; omega) _
  have HM : Hid (∀ a b c, Calls Tryz.prog 92 #[.agg #[vs], .agg #[vt], .func (.func 93) #[] #[]] (((w.alloc a).alloc b).alloc c) (SetPost (((w.alloc a).alloc b).alloc c) (Made 18446744073709551615 (fun a b => a || b) s t))) :=
    fun a b c => merge_any (enters_of Tryz.func93 (by kernel_rfl) rfl) or1 (hs.below (HB.out a b c) (Nat.le_refl _)) (ht.below (HB.out a b c) (Nat.le_refl _)) cs ct hl
  clear hs ht cs ct hl
  go_enter Tryz.func84, Tryz.ntmps84
  go_wp2_with fail
  refine (HM.out _ _ _).mono ?_
  rintro e w2 ⟨v2, rs, rfl, h2, hm2, hb2⟩
  obtain ⟨a2, n2, c2, hv2⟩ : ∃ a n c, v2 = .slice a n c := by
    obtain ⟨a, c, e, _⟩ := h2.sv
    exact ⟨a, _, c, e⟩
  subst hv2
  have H2 : Hid (Own w2 (w.heap.size + 1 + 1 + 1) (.slice a2 n2 c2) rs) := show Own w2 (w.heap.size + 1 + 1 + 1) (.slice a2 n2 c2) rs by simpa using h2
  have HM2 : Hid (Made 18446744073709551615 (fun a b => a || b) s t rs) := hm2
  have HB2 : Hid (Below (((w.alloc (Obj.cells #[vs] 90)).alloc (Obj.cells #[vt] 90)).alloc (Obj.cells #[Value.slice none 0 0] 90)).heap.size (((w.alloc (Obj.cells #[vs] 90)).alloc (Obj.cells #[vt] 90)).alloc (Obj.cells #[Value.slice none 0 0] 90)) w2) := hb2
  obtain ⟨hce, hfe⟩ : w2.cell? ⟨w.heap.size + 1 + 1, 0, none⟩ = some (.slice none 0 0) ∧ w2.frozen? ⟨w.heap.size + 1 + 1, 0, none⟩ = false := third_cell hb2
  clear h2 hm2 hb2
  go_wp2_with fail
  have d0 := World.cell?_setCell_same' w2 ⟨w.heap.size + 1 + 1, 0, none⟩ (.slice a2 n2 c2) (by rw [hce]; rfl)
  refine bodyPost_ret (v := .agg #[.slice a2 n2 c2]) (by simp [results, Tryz.results84, go_sem, d0]) rfl ?_
  exact ⟨_, rs, rfl, (H2.out.low (by omega) _ _).lower (by omega), HM2.out, ((HB.out _ _ _).trans (HB2.out.mono (HB.out _ _ _).size)).setCell (p := ⟨w.heap.size + 1 + 1, 0, none⟩) (by show w.heap.size ≤ w.heap.size + 1 + 1; omega) _⟩

set_option maxHeartbeats 1000000 in
theorem less_any {w : World} {vs vt : Value} {s t : List Sp} (hs : SV w vs s) (ht : SV w vt t) (cs : Canon 18446744073709551615 s) (ct : Canon 18446744073709551615 t) (hl : s.length + t.length ≤ 274877906944) :
    Calls Tryz.prog 105 #[.agg #[vs], .agg #[vt]] w (SetPost w (Made 18446744073709551615 (fun a b => a && !b) s t)) := by
  have HB : Hid (∀ a b c, Below w.heap.size w (((w.alloc a).alloc b).alloc c)) := fun a b c => (((Below.refl _ _).alloc (Nat.le_refl _) _).alloc (by simp) _).alloc (by simp; omega) _
  have HM : Hid (∀ a b c, Calls Tryz.prog 92 #[.agg #[vs], .agg #[vt], .func (.func 114) #[] #[]] (((w.alloc a).alloc b).alloc c) (SetPost (((w.alloc a).alloc b).alloc c) (Made 18446744073709551615 (fun a b => a && !b) s t))) :=
    fun a b c => merge_any (enters_of Tryz.func114 (by kernel_rfl) rfl) less1 (hs.below (HB.out a b c) (Nat.le_refl _)) (ht.below (HB.out a b c) (Nat.le_refl _)) cs ct hl
  clear hs ht cs ct hl
  go_enter Tryz.func105, Tryz.ntmps105
  go_wp2_with fail
  refine (HM.out _ _ _).mono ?_
  rintro e w2 ⟨v2, rs, rfl, h2, hm2, hb2⟩
  obtain ⟨a2, n2, c2, hv2⟩ : ∃ a n c, v2 = .slice a n c := by
    obtain ⟨a, c, e, _⟩ := h2.sv
    exact ⟨a, _, c, e⟩
  subst hv2
  have H2 : Hid (Own w2 (w.heap.size + 1 + 1 + 1) (.slice a2 n2 c2) rs) := show Own w2 (w.heap.size + 1 + 1 + 1) (.slice a2 n2 c2) rs by simpa using h2
  have HM2 : Hid (Made 18446744073709551615 (fun a b => a && !b) s t rs) := hm2
  have HB2 : Hid (Below (((w.alloc (Obj.cells #[vs] 90)).alloc (Obj.cells #[vt] 90)).alloc (Obj.cells #[Value.slice none 0 0] 90)).heap.size (((w.alloc (Obj.cells #[vs] 90)).alloc (Obj.cells #[vt] 90)).alloc (Obj.cells #[Value.slice none 0 0] 90)) w2) := hb2
  obtain ⟨hce, hfe⟩ : w2.cell? ⟨w.heap.size + 1 + 1, 0, none⟩ = some (.slice none 0 0) ∧ w2.frozen? ⟨w.heap.size + 1 + 1, 0, none⟩ = false := third_cell hb2
  clear h2 hm2 hb2
  go_wp2_with fail
  have d0 := World.cell?_setCell_same' w2 ⟨w.heap.size + 1 + 1, 0, none⟩ (.slice a2 n2 c2) (by rw [hce]; rfl)
  refine bodyPost_ret (v := .agg #[.slice a2 n2 c2]) (by simp [results, Tryz.results105, go_sem, d0]) rfl ?_
  exact ⟨_, rs, rfl, (H2.out.low (by omega) _ _).lower (by omega), HM2.out, ((HB.out _ _ _).trans (HB2.out.mono (HB.out _ _ _).size)).setCell (p := ⟨w.heap.size + 1 + 1, 0, none⟩) (by show w.heap.size ≤ w.heap.size + 1 + 1; omega) _⟩
end Go.Proofs.YtlplbbnicfeoaaaGreat.U64
