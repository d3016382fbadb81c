/- inner, where none of its words is ahead (written by parts/gen_sy1.py). Own work. -/
import Derived.Test.YtmkibolkcjallaaGreatDoorSyLx
namespace Go.Proofs.YtmkibolkcjallaaGreatDoor
open Go.RowKit
/-- the words that items of every block begin with; those of a group's; all of the policy's -/
def kwInner : List ByteArray := [⟨#[99, 111, 110, 115, 116]⟩, ⟨#[97, 115, 115, 101, 114, 116]⟩, ⟨#[101, 97, 99, 104]⟩, ⟨#[105, 102]⟩]
def kwGroup : List ByteArray := [⟨#[117, 115, 101]⟩, ⟨#[114, 97, 109]⟩, ⟨#[100, 101, 118, 105, 99, 101]⟩, ⟨#[114, 101, 103, 105, 111, 110]⟩, ⟨#[115, 117, 98, 106, 101, 99, 116]⟩, ⟨#[99, 104, 97, 110, 110, 101, 108]⟩, ⟨#[105, 114, 113]⟩, ⟨#[112, 108, 97, 110]⟩, ⟨#[109, 97, 115, 116, 101, 114]⟩, ⟨#[115, 116, 97, 114, 116]⟩]
theorem box_cell {w : World} {b : Nat} {v : Value} {t : TypeId} {z : Nat × Nat} (h : w.heap[b]? = some (.cells #[v] t z)) : w.cell? ⟨b, 0, none⟩ = some v := by
  rw [cell_of_row _ _ 0 _ _ _ h]; rfl
set_option maxRecDepth 100000 in
set_option maxHeartbeats 4000000 in
theorem inner_no {w : World} {pb base b o cap n g off m lc p q : Nat} {par : Par} {ws : List ByteArray} {zs : List Nat} {fn : Fn} {cs ds : Array Value} (h : Lx w pb base b o cap n g off m lc p q par ws zs) (hno : ∀ t ∈ kwInner, mkS zs ≠ t) (hl : ws.length ≤ 900) :
    Calls Tryz.prog 48 #[.pointer (some ⟨pb, 0, none⟩), .func fn cs ds] w fun e w' => e = .returned (.bool false) ∧ ∃ wv, Lx w' pb base b o cap n g off m lc p q { par with words := wv } (ws ++ kwInner) zs ∧ Mv pb base w w' := by
  have H0 : Hid (∀ X Y, Lx ((w.alloc X).alloc Y) pb base b o cap n g off m lc p q par ws zs) := fun X Y => (h.alloc X).alloc Y
  have HM0 : Hid (∀ X Y, Mv pb base w ((w.alloc X).alloc Y)) := fun X Y => ((Mv.refl _ _ _).alloc X).alloc Y
  have HNo : Hid (∀ t ∈ kwInner, mkS zs ≠ t) := hno
  have hpb : pb ≠ w.heap.size := by have := h.low; have := h.top; omega
  have HPb : Hid (w.heap.size ≠ pb) := fun e => hpb e.symm
  clear h hno hpb
  go_enter Tryz.func48, Tryz.ntmps48
  go_wp2_with fail
  obtain ⟨W1, hW1⟩ : ∃ W1, (w.alloc (Obj.cells #[Value.pointer (some ⟨pb, 0, none⟩)] 57)).alloc (Obj.cells #[Value.func fn cs ds] 1) = W1 := ⟨_, rfl⟩
  have HX1 : Hid (Lx W1 pb base b o cap n g off m lc p q par ws zs) := hW1 ▸ H0.out _ _
  have HM1 : Hid (Mv pb base w W1) := hW1 ▸ HM0.out _ _
  have HB1 : Hid (W1.heap[w.heap.size]? = some (.cells #[Value.pointer (some ⟨pb, 0, none⟩)] 57 (0, 0))) := hW1 ▸ alloc2_0 w _ _
  rw [hW1]
  clear hW1 H0 HM0
  refine (takes_no ⟨#[99, 111, 110, 115, 116]⟩ HX1.out (HNo.out _ (by simp [kwInner])) (Nat.le_trans hl (by omega))).mono ?_
  rintro e w2 ⟨rfl, v2, hx2, hm2⟩
  have HX2 : Hid (Lx w2 pb base b o cap n g off m lc p q { par with words := v2 } (ws ++ [⟨#[99, 111, 110, 115, 116]⟩]) zs) := show Lx _ _ _ _ _ _ _ _ _ _ _ _ _ _ _ _ by simpa using hx2
  have HB2 : Hid (w2.heap[w.heap.size]? = some (.cells #[Value.pointer (some ⟨pb, 0, none⟩)] 57 (0, 0))) := hm2.stay _ _ _ _ HPb.out (by decide) HB1.out
  have HM2 : Hid (Mv pb base w w2) := HM1.out.trans hm2
  clear hx2 hm2 HX1 HB1 HM1
  have c3 := box_cell HB2.out
  go_wp2_with fail
  clear c3
  refine (takes_no ⟨#[97, 115, 115, 101, 114, 116]⟩ HX2.out (HNo.out _ (by simp [kwInner])) (by simp; omega)).mono ?_
  rintro e w3 ⟨rfl, v3, hx3, hm3⟩
  have HX3 : Hid (Lx w3 pb base b o cap n g off m lc p q { par with words := v3 } (ws ++ [⟨#[99, 111, 110, 115, 116]⟩, ⟨#[97, 115, 115, 101, 114, 116]⟩]) zs) := show Lx _ _ _ _ _ _ _ _ _ _ _ _ _ _ _ _ by simpa using hx3
  have HB3 : Hid (w3.heap[w.heap.size]? = some (.cells #[Value.pointer (some ⟨pb, 0, none⟩)] 57 (0, 0))) := hm3.stay _ _ _ _ HPb.out (by decide) HB2.out
  have HM3 : Hid (Mv pb base w w3) := HM2.out.trans hm3
  clear hx3 hm3 HX2 HB2 HM2
  have c4 := box_cell HB3.out
  go_wp2_with fail
  clear c4
  refine (takes_no ⟨#[101, 97, 99, 104]⟩ HX3.out (HNo.out _ (by simp [kwInner])) (by simp; omega)).mono ?_
  rintro e w4 ⟨rfl, v4, hx4, hm4⟩
  have HX4 : Hid (Lx w4 pb base b o cap n g off m lc p q { par with words := v4 } (ws ++ [⟨#[99, 111, 110, 115, 116]⟩, ⟨#[97, 115, 115, 101, 114, 116]⟩, ⟨#[101, 97, 99, 104]⟩]) zs) := show Lx _ _ _ _ _ _ _ _ _ _ _ _ _ _ _ _ by simpa using hx4
  have HB4 : Hid (w4.heap[w.heap.size]? = some (.cells #[Value.pointer (some ⟨pb, 0, none⟩)] 57 (0, 0))) := hm4.stay _ _ _ _ HPb.out (by decide) HB3.out
  have HM4 : Hid (Mv pb base w w4) := HM3.out.trans hm4
  clear hx4 hm4 HX3 HB3 HM3
  have c5 := box_cell HB4.out
  go_wp2_with fail
  clear c5
  refine (takes_no ⟨#[105, 102]⟩ HX4.out (HNo.out _ (by simp [kwInner])) (by simp; omega)).mono ?_
  rintro e w5 ⟨rfl, v5, hx5, hm5⟩
  have HX5 : Hid (Lx w5 pb base b o cap n g off m lc p q { par with words := v5 } (ws ++ [⟨#[99, 111, 110, 115, 116]⟩, ⟨#[97, 115, 115, 101, 114, 116]⟩, ⟨#[101, 97, 99, 104]⟩, ⟨#[105, 102]⟩]) zs) := show Lx _ _ _ _ _ _ _ _ _ _ _ _ _ _ _ _ by simpa using hx5
  have HB5 : Hid (w5.heap[w.heap.size]? = some (.cells #[Value.pointer (some ⟨pb, 0, none⟩)] 57 (0, 0))) := hm5.stay _ _ _ _ HPb.out (by decide) HB4.out
  have HM5 : Hid (Mv pb base w w5) := HM4.out.trans hm5
  clear hx5 hm5 HX4 HB4 HM4
  go_wp2_with fail
  go_ret
  exact ⟨rfl, v5, HX5.out, HM5.out⟩
end Go.Proofs.YtmkibolkcjallaaGreatDoor
