/- lay: bytes laid down over pages. Own work. -/
import Derived.Test.YtehedllcdpjebaaBLay0
namespace Go.Proofs.Ytehedllcdpjebaa
open Go.RowKit Go.Maps
/-- where the loop of lay stands: i bytes are laid, the rest is read at v -/
def LayAt (w wr : World) (B : Nat) (T : Nat → Option Nat) (M : Nat → Nat) (a : Nat) (zs : List Nat) (v : Value) (i : Nat) : Prop :=
  ∃ T', Held wr B T' (putAt M a (zs.take i)) ∧ Keeps (Foot B T) w wr ∧ Grows w.heap.size T T' ∧ Sl wr v (zs.drop i)
theorem take_add (zs : List Nat) (i n : Nat) : zs.take i ++ (zs.drop i).take n = zs.take (i + n) := by rw [List.take_add]
theorem lay_step {w wr : World} {B : Nat} {T : Nat → Option Nat} {M : Nat → Nat} {a b o c m i n : Nat} {zs : List Nat} (h : LayAt w wr B T M a zs (.slice (some ⟨b, o, none⟩) m c) i) (hm : m = zs.length - i) (hi : i ≤ zs.length) (ha : a + zs.length ≤ 4294967296) (hn : n ≤ m) (hp : 0 < n) (hpg : (a + i) % 4096 + n ≤ 4096) (hb : ¬ Foot B T b) (hbw : b < w.heap.size) :
    Calls Try.prog 50 #[.map (some B), .int .u64 ((a + i : Nat) : Int), .slice (some ⟨b, o, none⟩) n c] wr fun e w' => e = .returned (.tuple #[]) ∧ Hid (∀ v', (∀ W, Sl W (.slice (some ⟨b, o, none⟩) m c) (zs.drop i) → Sl W v' (zs.drop (i + n))) → LayAt w w' B T M a zs v' (i + n)) := by
  obtain ⟨T', hH, hK, hG, hS⟩ := h
  have hl : (zs.drop i).length = m := by rw [List.length_drop, hm]
  have hS' : Sl wr (.slice (some ⟨b, o, none⟩) n c) ((zs.drop i).take n) := by
    rw [← hl] at hS
    exact hS.front n (by omega)
  have hbf : ¬ Foot B T' b := fun hf => hb (hG.foot hf hbw)
  have htl : ((zs.drop i).take n).length = n := by rw [List.length_take, hl]; omega
  refine (layWithin_any hH (a := a + i) (by omega) hS' htl.symm (by rw [htl]; exact hpg) (Nat.lt_of_lt_of_le hbw hK.size) (fun e => hbf (.inl e))).mono ?_
  rintro e w' ⟨rfl, T2, h2, k2, g2⟩
  refine ⟨rfl, fun v' hv => ⟨T2, ?_, hK.trans k2 (fun j hj hf => hG.foot hf hj), hG.trans g2 hK.size, hv w' (hS.keeps k2 (fun j e => by cases e; exact hbf))⟩⟩
  have e1 : a + i = a + (zs.take i).length := by rw [List.length_take]; omega
  rw [e1, putAt_append, take_add] at h2
  exact h2
theorem tail_sl {b o m c n i : Nat} {zs : List Nat} (hm : m = zs.length - i) (hn : n ≤ m) (W : World) (h : Sl W (.slice (some ⟨b, o, none⟩) m c) (zs.drop i)) : Sl W (.slice (some ⟨b, if c = n then o else o + n, none⟩) (m - n) (c - n)) (zs.drop (i + n)) := by
  have hl : (zs.drop i).length = m := by rw [List.length_drop, hm]
  have hl2 : (zs.drop (i + n)).length = m - n := by rw [List.length_drop]; omega
  obtain ⟨ao, cap, e, h1, h2, h3, h4, h5⟩ := h
  cases e
  refine ⟨_, c - n, by rw [hl2], by rw [hl2]; omega, by omega, fun z hz => h3 z (by rw [← List.drop_drop] at hz; exact List.mem_of_mem_drop hz), by simp, fun j hj => ?_⟩
  have hc : c ≠ n := by omega
  obtain ⟨b', o', e', hcell⟩ := h5 (n + j) (by omega)
  cases e'
  refine ⟨b, o + n, by rw [if_neg hc], ?_⟩
  rw [Nat.add_assoc, hcell]
  congr 3
  simp only [List.getD_eq_getElem?_getD, List.getElem?_drop]
  congr 2
  omega
theorem LayAt.drew {w wr : World} {B : Nat} {T : Nat → Option Nat} {M : Nat → Nat} {a : Nat} {zs : List Nat} {v : Value} {i : Nat} (h : LayAt w wr B T M a zs v i) : LayAt w wr.drew B T M a zs v i := by
  obtain ⟨T', h1, h2, h3, h4⟩ := h
  exact ⟨T', h1, h2.drew, h3, h4⟩
set_option maxRecDepth 100000 in
set_option maxHeartbeats 4000000 in
theorem lay_some {w : World} {B : Nat} {T : Nat → Option Nat} {M : Nat → Nat} {a b o c : Nat} {zs : List Nat} (h : Held w B T M) (ha : a + zs.length ≤ 4294967296) (hs : Sl w (.slice (some ⟨b, o, none⟩) zs.length c) zs) (hb : ¬ Foot B T b) (hbw : b < w.heap.size) :
    Calls Try.prog 29 #[.map (some B), .int .u64 (a : Int), .slice (some ⟨b, o, none⟩) zs.length c] w (LaidPost w B T (putAt M a zs)) := by
  have HL0 : Hid (LayAt w w B T M a zs (.slice (some ⟨b, o, none⟩) zs.length c) 0) := ⟨T, by rw [List.take_zero, putAt_nil]; exact h, Keeps.refl _ _, Grows.refl _ _, hs⟩
  have HB : Hid (¬ Foot B T b ∧ b < w.heap.size) := ⟨hb, hbw⟩
  have hcap : zs.length ≤ c ∧ c ≤ maxLen := by obtain ⟨ao, cap, e, h1, h2, _⟩ := hs; cases e; exact ⟨h1, h2⟩
  clear h hs hb hbw
  unfold maxLen at hcap
  go_enter Try.func29, Try.ntmps29
  go_wp2_with fail
  go_loopw [1, 2] (fun x v wr => ∃ i o' m c' : Nat, i ≤ zs.length ∧ m ≤ c' ∧ c' ≤ 9223372036854775807 ∧ x = .int .u64 ((a + i : Nat) : Int) ∧ v = .slice (some ⟨b, o', none⟩) m c' ∧ Hid (m = zs.length - i) ∧ Hid (LayAt w wr B T M a zs (.slice (some ⟨b, o', none⟩) m c') i)) (fun _ v _ => match v with | .slice _ m _ => m | _ => 0)
  case atStart => exact ⟨0, o, zs.length, c, by omega, by omega, by omega, rfl, rfl, (rfl : _ = _), HL0⟩
  case round =>
    obtain ⟨i, o', m, c', hi, hmc, hc', rfl, rfl, HM, HL⟩ := hrel
    by_cases hlt : 0 < m
    · obtain ⟨n, hn⟩ : ∃ n, n = min m (4096 - (a + i) % 4096) := ⟨_, rfl⟩
      have HW : Hid (Calls Try.prog 49 #[.int .u64 ((a + i : Nat) : Int), .int .i64 (m : Int)] wr fun e w' => e = .returned (.int .i64 (n : Int)) ∧ w' = wr) := by rw [hn]; exact within_any (by omega) wr
      have n1 : n ≤ m := by omega
      have n2 : 0 < n := by omega
      have HS : Hid (Calls Try.prog 50 #[.map (some B), .int .u64 ((a + i : Nat) : Int), .slice (some ⟨b, o', none⟩) n c'] wr fun e w' => e = .returned (.tuple #[]) ∧ Hid (∀ v', (∀ W, Sl W (.slice (some ⟨b, o', none⟩) m c') (zs.drop i) → Sl W v' (zs.drop (i + n))) → LayAt w w' B T M a zs v' (i + n))) := lay_step HL.out HM.out hi ha n1 n2 (by omega) HB.out.1 HB.out.2
      have hab : a + i + n ≤ 4294967296 := by have := HM.out; omega
      have hnm : i + n ≤ zs.length := by have := HM.out; omega
      clear hn
      go_wp2_with (first | (go_at_call 49; refine HW.out.mono ?_; rintro e w' ⟨rfl, hw⟩; have hw := hw.symm; subst hw) | (go_at_call 50; refine HS.out.mono ?_; rintro e w2 ⟨rfl, HS2⟩))
      go_region
      go_wp2_with fail
      go_roundw
      case rel => exact ⟨i + n, if c' = n then o' else o' + n, m - n, c' - n, hnm, by omega, by omega, by go_num, by split <;> rfl, (by have := HM.out; omega : m - n = zs.length - (i + n)), (HS2.out _ (tail_sl HM.out n1)).drew⟩
      case measure => simp; omega
    · have HE : Hid (i = zs.length) := (by have := HM.out; omega : i = zs.length)
      go_wp2_with fail
      go_end0
      obtain ⟨T', h1, h2, h3, _⟩ := HL.out
      rw [HE.out, List.take_length] at h1
      exact ⟨rfl, T', h1, h2, h3⟩
end Go.Proofs.Ytehedllcdpjebaa
