/- lay: bytes laid down over pages. Own work. -/
import Derived.Test.YtmaahompmgmkfaaBLay0
namespace Go.Proofs.Ytmaahompmgmkfaa
open Go.RowKit Go.Maps
/-- where the loop of lay stands: i bytes are laid, the rest is read at v -/
def LayAt (w wr : World) (B : Nat) (T : Nat → Option Nat) (M : Nat → Nat) (a : Nat) (zs : List Nat) (v : Value) (i : Nat) : Prop :=
  ∃ T', Held wr B T' (putAt M a (zs.take i)) ∧ Keeps (Foot B T) w wr ∧ Grows w.heap.size T T' ∧ Sl wr v (zs.drop i)
theorem take_add (zs : List Nat) (i n : Nat) : zs.take i ++ (zs.drop i).take n = zs.take (i + n) := by rw [List.take_add]
theorem tail_sl {b o m c n i : Nat} {zs : List Nat} (hm : m = zs.length - i) (hn : n ≤ m) (W : World) (h : Sl W (.slice (some ⟨b, o, none⟩) m c) (zs.drop i)) : Sl W (.slice (some ⟨b, if c = n then o else o + n, none⟩) (m - n) (c - n)) (zs.drop (i + n)) := by
  have hl : (zs.drop i).length = m := by rw [List.length_drop, hm]
  have hl2 : (zs.drop (i + n)).length = m - n := by rw [List.length_drop]; omega
  obtain ⟨ao, cap, e, h1, h2, h3, h4, h5⟩ := h
  cases e
  refine ⟨_, c - n, by rw [hl2], by rw [hl2]; omega, by omega, fun z hz => h3 z (by rw [← List.drop_drop] at hz; exact List.mem_of_mem_drop hz), by simp, fun j hj => ?_⟩
  have hc : c ≠ n := by omega
  obtain ⟨b', o', e', hcell⟩ := h5 (n + j) (by omega)
  cases e'
  refine ⟨b, o + n, by rw [if_neg hc], ?_⟩
  rw [Nat.add_assoc, hcell]
  congr 3
  simp only [List.getD_eq_getElem?_getD, List.getElem?_drop]
  congr 2
  omega
theorem LayAt.drew {w wr : World} {B : Nat} {T : Nat → Option Nat} {M : Nat → Nat} {a : Nat} {zs : List Nat} {v : Value} {i : Nat} (h : LayAt w wr B T M a zs v i) : LayAt w wr.drew B T M a zs v i := by
  obtain ⟨T', h1, h2, h3, h4⟩ := h
  exact ⟨T', h1, h2.drew, h3, h4⟩
end Go.Proofs.Ytmaahompmgmkfaa
