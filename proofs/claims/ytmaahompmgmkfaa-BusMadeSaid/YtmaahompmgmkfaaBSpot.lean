/- spot and Where: in which range an address lies. Own work. -/
import Derived.Test.YtmaahompmgmkfaaBMach
import Derived.Test.YtmaahompmgmkfaaBPut
namespace Go.Proofs.Ytmaahompmgmkfaa
open Go.RowKit Go.Maps Go.Proofs.Ytmaahompmgmkfaa.Sp
def spotFrom (a : Int) (i : Nat) : List Sp → Option (Nat × Int)
  | [] => none
  | r :: rs => if r.1 ≤ a ∧ a < r.1 + r.2 then some (i, a - r.1) else spotFrom a (i + 1) rs
def spotV (kind : Int) : Option (Nat × Int) → Value
  | none => .tuple #[.agg #[.int .i64 0, .int .i64 0, .int .u64 0], .bool false]
  | some (i, o) => .tuple #[.agg #[.int .i64 kind, .int .i64 (i : Int), .int .u64 o], .bool true]
theorem spotFrom_step {a : Int} {rs : List Sp} {k : Nat} (h : k < rs.length) : spotFrom a k (rs.drop k) = if rs[k].1 ≤ a ∧ a < rs[k].1 + rs[k].2 then some (k, a - rs[k].1) else spotFrom a (k + 1) (rs.drop (k + 1)) := by
  rw [List.drop_eq_getElem_cons h, spotFrom]
def Box3 (w : World) (b : Nat) (x y z : Value) : Prop := w.heap[b]? = some (.cells #[x, y, z] 37 (0, 0))
theorem Box3.cells {w : World} {b : Nat} {x y z : Value} (h : Box3 w b x y z) : w.cell? ⟨b, 0, none⟩ = some x ∧ w.cell? ⟨b, 1, none⟩ = some y ∧ w.cell? ⟨b, 2, none⟩ = some z ∧ w.frozen? ⟨b, 0, none⟩ = false ∧ w.frozen? ⟨b, 1, none⟩ = false ∧ w.frozen? ⟨b, 2, none⟩ = false := by
  refine ⟨?_, ?_, ?_, by simp [World.frozen?, show w.heap[b]? = _ from h], by simp [World.frozen?, show w.heap[b]? = _ from h], by simp [World.frozen?, show w.heap[b]? = _ from h]⟩ <;> rw [cell_of_row w b _ _ _ _ h] <;> rfl
theorem Box3.set {w : World} {b : Nat} {x y z : Value} (h : Box3 w b x y z) (x' y' z' : Value) : Box3 (((w.setCell ⟨b, 0, none⟩ x').setCell ⟨b, 1, none⟩ y').setCell ⟨b, 2, none⟩ z') b x' y' z' := by
  have h' : w.heap[b]? = _ := h
  simp [Box3, World.setCell, Array.getElem?_modify, h']
set_option maxRecDepth 100000 in
set_option maxHeartbeats 2000000 in
theorem spot_any {w : World} {v : Value} {rs : List Sp} {a kind : Int} (hv : U64.SV w v rs) (hf : Fits 18446744073709551615 rs) (ha : 0 ≤ a ∧ a ≤ 18446744073709551615) :
    Calls Try.prog 20 #[.int .i64 kind, v, .int .u64 a] w fun e w' => e = .returned (spotV kind (spotFrom a 0 rs)) ∧ Below w.heap.size w w' := by
  have HV : Hid (U64.SV w v rs) := hv
  obtain ⟨ao, cap, rfl, h1, h2, h3, h4, h5⟩ := hv
  have HF : Hid (Fits 18446744073709551615 rs) := hf
  have HA : Hid (0 ≤ a ∧ a ≤ 18446744073709551615) := ha
  unfold maxLen at h2
  clear h3 h4 h5 hf
  go_enter Try.func20, Try.ntmps20
  go_wp2_with fail
  obtain ⟨W0, hW0⟩ : ∃ W0, w.alloc (Obj.cells #[.int .i64 0, .int .i64 0, .int .u64 0] 37) = W0 := ⟨_, rfl⟩
  have HB0 : Hid (Below w.heap.size w W0) := hW0 ▸ (Below.refl _ _).alloc (Nat.le_refl _) _
  have HZ0 : Hid (W0.heap.size = w.heap.size + 1) := by show _ = _; rw [← hW0]; simp
  have HX0 : Hid (Box3 W0 w.heap.size (.int .i64 0) (.int .i64 0) (.int .u64 0)) := by rw [← hW0]; exact heap_alloc_new w _
  rw [hW0]
  clear hW0
  go_loopw [14] (fun i wr => ∃ k : Nat, k ≤ rs.length ∧ i = .int .i64 (k : Int) ∧ Hid (Below W0.heap.size W0 wr) ∧ Hid (spotFrom a 0 rs = spotFrom a k (rs.drop k))) (fun i _ => rs.length - (intOf i).toNat)
  case atStart => exact ⟨0, Nat.zero_le _, rfl, Below.refl _ _, (rfl : _ = _)⟩
  case round =>
    obtain ⟨k, hk, rfl, HB, HS⟩ := hrel
    have hx3 := Box3.cells ((HB.out.block w.heap.size (by rw [HZ0.out]; omega)).trans HX0.out)
    obtain ⟨x0, x1, x2, f0, f1, f2⟩ := hx3
    have HX3 : Hid (Box3 wr w.heap.size (.int .i64 0) (.int .i64 0) (.int .u64 0)) := ((HB.out.block w.heap.size (by rw [HZ0.out]; omega)).trans HX0.out)
    have hxa := fun X : Obj => Box3.cells (w := wr.alloc X) ((Below.heap_alloc wr X w.heap.size (World.block_lt_of_cell? wr _ x0)).trans HX3.out)
    have y0 := fun X => (hxa X).1
    have y1 := fun X => (hxa X).2.1
    have y2 := fun X => (hxa X).2.2.1
    have y3 := fun X => (hxa X).2.2.2.1
    have y4 := fun X => (hxa X).2.2.2.2.1
    have y5 := fun X => (hxa X).2.2.2.2.2
    clear hxa
    by_cases hlt : k < rs.length
    · obtain ⟨ao', cap', e, _, _, _, _, h5⟩ := (HV.out.below HB0.out (Nat.le_refl _)).below HB.out (Nat.le_refl _)
      cases e
      obtain ⟨g, off, rfl, d0, d1⟩ := h5 k hlt
      clear h5
      have hb := HF.out rs[k] (List.getElem_mem _)
      have HSt : Hid (spotFrom a 0 rs = if rs[k].1 ≤ a ∧ a < rs[k].1 + rs[k].2 then some (k, a - rs[k].1) else spotFrom a (k + 1) (rs.drop (k + 1))) := by rw [HS.out]; exact spotFrom_step hlt
      have HBn : Hid (∀ X, Below W0.heap.size W0 (wr.alloc X)) := fun X => HB.out.alloc HB.out.size X
      obtain ⟨x, hx⟩ : ∃ x, x = rs[k] := ⟨_, rfl⟩
      rw [← hx] at d0 d1 hb HSt
      have HSub : Hid (∀ W, Calls Try.prog 31 #[.int .u64 a, .int .u64 x.1] W fun e w' => e = .returned (.tuple #[.int .u64 (subB a x.1).1, .bool (subB a x.1).2]) ∧ w' = W) := fun W => sub_any HA.out ⟨hb.1, hb.2.1⟩ W
      clear hx
      by_cases h6 : a < x.1
      · have hs : subB a x.1 = (0, false) := if_pos h6
        rw [hs] at HSub
        have HN : Hid (spotFrom a 0 rs = spotFrom a (k + 1) (rs.drop (k + 1))) := by have := HSt.out; rwa [if_neg (by omega)] at this
        clear hs
        go_wp2_with (first | (go_at_call 31; refine (HSub.out _).mono ?_; rintro e w' ⟨rfl, rfl⟩))
        go_roundw
        case rel => exact ⟨k + 1, by omega, by go_num, HBn.out _, HN⟩
        case measure => simp [intOf]; omega
      · have hs : subB a x.1 = (a - x.1, true) := if_neg h6
        rw [hs] at HSub
        clear hs
        by_cases h7 : a - x.1 < x.2
        · have HN : Hid (spotFrom a 0 rs = some (k, a - x.1)) := by have := HSt.out; rwa [if_pos (by omega)] at this
          go_wp2_with (first | (go_at_call 31; refine (HSub.out _).mono ?_; rintro e w' ⟨rfl, rfl⟩))
          obtain ⟨d0, d1, d2, _⟩ := Box3.cells (Box3.set (w := wr.alloc (.cells #[.int .u64 x.1, .int .u64 x.2] 31)) ((Below.heap_alloc wr _ w.heap.size (World.block_lt_of_cell? wr _ x0)).trans HX3.out) (.int .i64 kind) (.int .i64 (k : Int)) (.int .u64 (a - x.1)))
          refine bodyPost_ret (v := .tuple #[.agg #[.int .i64 kind, .int .i64 (k : Int), .int .u64 (a - x.1)], .bool true]) (by simp [results, Try.results20, go_sem, d0, d1, d2]) rfl ?_
          have hsz := HB0.out.size
          exact ⟨by rw [HN.out]; rfl, HB0.out.trans (((((HBn.out _).mono hsz).setCell (p := ⟨w.heap.size, 0, none⟩) (Nat.le_refl _) _).setCell (p := ⟨w.heap.size, 1, none⟩) (Nat.le_refl _) _).setCell (p := ⟨w.heap.size, 2, none⟩) (Nat.le_refl _) _)⟩
        · have HN : Hid (spotFrom a 0 rs = spotFrom a (k + 1) (rs.drop (k + 1))) := by have := HSt.out; rwa [if_neg (by omega)] at this
          go_wp2_with (first | (go_at_call 31; refine (HSub.out _).mono ?_; rintro e w' ⟨rfl, rfl⟩))
          go_roundw
          case rel => exact ⟨k + 1, by omega, by go_num, HBn.out _, HN⟩
          case measure => simp [intOf]; omega
    · have HE : Hid (spotFrom a 0 rs = none) := by rw [HS.out, List.drop_of_length_le (by omega)]; exact (rfl : _ = _)
      go_wp2_with fail
      obtain ⟨d0, d1, d2, _⟩ := Box3.cells (Box3.set HX3.out (.int .i64 0) (.int .i64 0) (.int .u64 0))
      refine bodyPost_ret (v := .tuple #[.agg #[.int .i64 0, .int .i64 0, .int .u64 0], .bool false]) (by simp [results, Try.results20, go_sem, d0, d1, d2]) rfl ?_
      have hsz := HB0.out.size
      exact ⟨by rw [HE.out]; rfl, HB0.out.trans ((((HB.out.mono hsz).setCell (p := ⟨w.heap.size, 0, none⟩) (Nat.le_refl _) _).setCell (p := ⟨w.heap.size, 1, none⟩) (Nat.le_refl _) _).setCell (p := ⟨w.heap.size, 2, none⟩) (Nat.le_refl _) _)⟩
end Go.Proofs.Ytmaahompmgmkfaa
