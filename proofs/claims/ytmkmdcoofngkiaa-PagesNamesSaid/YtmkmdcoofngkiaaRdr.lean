/- The Reader in memory; NewReader, At, Left, Err, End, rest. -/
import Derived.Test.YtmkmdcoofngkiaaWSeal
namespace Go.Proofs.Ytmkmdcoofngkiaa
open Go.RowKit
def Rd (w : World) (p g : Nat) (zs : List Nat) (pos : Nat) (why : Int) : Prop :=
  w.heap[p]? = some (.cells #[.slice (some ⟨g, 0, none⟩) zs.length zs.length, .int .i64 pos, .int .i64 why] 124 (0, 0)) ∧ Row w g zs ∧ g ≠ p ∧ pos ≤ zs.length ∧ (∀ z ∈ zs, z < 256) ∧ zs.length ≤ 1099511627776
section
variable {w w' : World} {p g : Nat} {zs : List Nat} {pos : Nat} {why : Int}
theorem Rd.lt (h : Rd w p g zs pos why) : p < w.heap.size := (Array.getElem?_eq_some_iff.1 h.1).1
theorem Rd.cell0 (h : Rd w p g zs pos why) : w.cell? ⟨p, 0, none⟩ = some (.slice (some ⟨g, 0, none⟩) zs.length zs.length) := by
  rw [cell_of_row w p 0 _ _ _ h.1]; rfl
theorem Rd.cell1 (h : Rd w p g zs pos why) : w.cell? ⟨p, 1, none⟩ = some (.int .i64 pos) := by
  rw [cell_of_row w p 1 _ _ _ h.1]; rfl
theorem Rd.cell2 (h : Rd w p g zs pos why) : w.cell? ⟨p, 2, none⟩ = some (.int .i64 why) := by
  rw [cell_of_row w p 2 _ _ _ h.1]; rfl
theorem Rd.thawed (h : Rd w p g zs pos why) (i : Nat) : w.frozen? ⟨p, i, none⟩ = false := by
  simp [World.frozen?, h.1]
theorem Rd.keeps {S : Nat → Prop} (h : Rd w p g zs pos why) (hk : Keeps S w w') (hp : ¬ S p) (hg : ¬ S g) : Rd w' p g zs pos why :=
  ⟨(hk.block p h.lt hp).trans h.1, h.2.1.keeps hk hg, h.2.2⟩
theorem Rd.sl (h : Rd w p g zs pos why) : Sl w (.slice (some ⟨g, 0, none⟩) zs.length zs.length) zs := by
  have := h.2.1.sl h.2.2.2.2.1 0 zs.length zs.length (by omega) (Nat.le_refl _) (by have := h.2.2.2.2.2; unfold maxLen; omega)
  rwa [List.drop_zero, List.take_length] at this
theorem Rd.moved (h : Rd w p g zs pos why) (n : Nat) (hn : n ≤ zs.length) : Rd (w.setCell ⟨p, 1, none⟩ (.int .i64 (n : Int))) p g zs n why := by
  refine ⟨?_, h.2.1.keeps (Keeps.setCell w p 1 _) h.2.2.1, h.2.2.1, hn, h.2.2.2.2⟩
  simp only [World.setCell, Array.getElem?_modify]
  rw [if_pos trivial, h.1]
  simp
theorem Rd.refuse (h : Rd w p g zs pos why) (e : Int) : Rd (w.setCell ⟨p, 2, none⟩ (.int .i64 e)) p g zs pos e := by
  refine ⟨?_, h.2.1.keeps (Keeps.setCell w p 2 _) h.2.2.1, h.2.2⟩
  simp only [World.setCell, Array.getElem?_modify]
  rw [if_pos trivial, h.1]
  simp
end
set_option maxHeartbeats 400000 in
theorem newReader_any {w : World} {u : Value} {zs : List Nat} (hs : Sl w u zs) (hl : zs.length ≤ 1099511627776) :
    Calls Try.prog 49 #[u] w fun e w' => ∃ p, e = .returned (.pointer (some ⟨p, 0, none⟩)) ∧ w.heap.size < p ∧ Rd w' p w.heap.size zs 0 0 ∧ Below w.heap.size w w' := by
  have HS : Hid (∀ z ∈ zs, z < 256) := hs.small
  have HC : Hid (Calls Try.prog 69 #[u] w fun e w' => e = .returned (.slice (some ⟨w.heap.size, 0, none⟩) zs.length zs.length) ∧ Row w' w.heap.size zs ∧ Below w.heap.size w w') := clone_any hs hl
  clear hs
  go_enter Try.func49, Try.ntmps49
  go_wp2_with fail
  refine HC.out.mono ?_
  rintro e w1 ⟨rfl, hr, hb⟩
  have HR : Hid (Row w1 w.heap.size zs) := hr
  have HB : Hid (Below w.heap.size w w1) := hb
  clear hr hb HC
  go_wp2
  go_ret
  refine ⟨_, rfl, HR.out.lt, ⟨heap_alloc_new w1 _, HR.out.below ((Below.refl _ _).alloc (Nat.le_refl _) _), Nat.ne_of_lt HR.out.lt, by omega, HS.out, hl⟩, HB.out.alloc HB.out.size _⟩
set_option maxHeartbeats 400000 in
theorem rest_any {w : World} {p g : Nat} {zs : List Nat} {pos : Nat} {why : Int} (h : Rd w p g zs pos why) :
    Calls Try.prog 80 #[.pointer (some ⟨p, 0, none⟩)] w fun e w' => ∃ ao c, e = .returned (.slice ao (zs.length - pos) c) ∧ Sl w' (.slice ao (zs.length - pos) c) (zs.drop pos) ∧ c = zs.length - pos ∧ (∀ a, ao = some a → a.block = g) ∧ w'.heap = w.heap ∧ Below w.heap.size w w' := by
  have c0 := h.cell0
  have c1 := h.cell1
  have h1 := h.2.2.2.1
  have h2 := h.2.2.2.2.2
  by_cases hc : zs.length = pos
  · have HS : Hid (Sl w (.slice (some ⟨g, 0, none⟩) 0 0) (zs.drop pos)) := by
      have := h.sl
      rw [show (Value.slice (some ⟨g, 0, none⟩) zs.length zs.length) = Value.slice (some ⟨g, 0, none⟩) zs.length pos by rw [hc]] at this
      exact this.cutEnd
    clear h
    subst hc
    go_enter Try.func80, Try.ntmps80
    go_wp2
    go_region
    all_goals
      go_wp2
      go_ret
      exact ⟨some ⟨g, 0, none⟩, 0, by simp, by rw [Nat.sub_self]; exact HS.out, by omega, fun a e => by cases e; rfl, rfl, (Below.refl _ _).drew⟩
  · have HS : Hid (Sl w (.slice (some ⟨g, pos, none⟩) (zs.length - pos) (zs.length - pos)) (zs.drop pos)) := by
      have := h.2.1.sl h.2.2.2.2.1 pos (zs.length - pos) (zs.length - pos) (by omega) (Nat.le_refl _) (by unfold maxLen; omega)
      rwa [List.take_of_length_le (by rw [List.length_drop]; omega)] at this
    clear h
    go_enter Try.func80, Try.ntmps80
    go_wp2
    go_region
    all_goals
      go_wp2
      go_ret
      exact ⟨_, _, rfl, HS.out, rfl, fun a e => by cases e; rfl, rfl, (Below.refl _ _).drew⟩
end Go.Proofs.Ytmkmdcoofngkiaa
