import Derived.Test.YtnifefmfhjfbnaaGreatDoorPk06
/- The Reader in memory; NewReader, At, Left, Err, End, rest. -/
namespace Go.Proofs.YtnifefmfhjfbnaaGreatDoor
open Go.RowKit
def Rd (w : World) (p g : Nat) (zs : List Nat) (pos : Nat) (why : Int) : Prop :=
 w.heap[p]? = some (.cells #[.slice (some ⟨g, 0, none⟩) zs.length zs.length, .int .i64 pos, .int .i64 why] 142 (0, 0)) ∧ Row w g zs ∧ g ≠ p ∧ pos ≤ zs.length ∧ (∀ z ∈ zs, z < 256) ∧ zs.length ≤ 1099511627776
section
variable {w w' : World} {p g : Nat} {zs : List Nat} {pos : Nat} {why : Int}
theorem Rd.lt (h : Rd w p g zs pos why) : p < w.heap.size := (Array.getElem?_eq_some_iff.1 h.1).1
theorem Rd.cell0 (h : Rd w p g zs pos why) : w.cell? ⟨p, 0, none⟩ = some (.slice (some ⟨g, 0, none⟩) zs.length zs.length) := by
 rw [cell_of_row w p 0 _ _ _ h.1]; rfl
theorem Rd.cell1 (h : Rd w p g zs pos why) : w.cell? ⟨p, 1, none⟩ = some (.int .i64 pos) := by
 rw [cell_of_row w p 1 _ _ _ h.1]; rfl
theorem Rd.cell2 (h : Rd w p g zs pos why) : w.cell? ⟨p, 2, none⟩ = some (.int .i64 why) := by
 rw [cell_of_row w p 2 _ _ _ h.1]; rfl
theorem Rd.thawed (h : Rd w p g zs pos why) (i : Nat) : w.frozen? ⟨p, i, none⟩ = false := by
 simp [World.frozen?, h.1]
theorem Rd.keeps {S : Nat → Prop} (h : Rd w p g zs pos why) (hk : Keeps S w w') (hp : ¬ S p) (hg : ¬ S g) : Rd w' p g zs pos why :=
 ⟨(hk.block p h.lt hp).trans h.1, h.2.1.keeps hk hg, h.2.2⟩
theorem Rd.sl (h : Rd w p g zs pos why) : Sl w (.slice (some ⟨g, 0, none⟩) zs.length zs.length) zs := by
 have := h.2.1.sl h.2.2.2.2.1 0 zs.length zs.length (by omega) (Nat.le_refl _) (by have := h.2.2.2.2.2; unfold maxLen; omega)
 rwa [List.drop_zero, List.take_length] at this
theorem Rd.moved (h : Rd w p g zs pos why) (n : Nat) (hn : n ≤ zs.length) : Rd (w.setCell ⟨p, 1, none⟩ (.int .i64 (n : Int))) p g zs n why := by
 refine ⟨?_, h.2.1.keeps (Keeps.setCell w p 1 _) h.2.2.1, h.2.2.1, hn, h.2.2.2.2⟩
 simp only [World.setCell, Array.getElem?_modify]
 rw [if_pos trivial, h.1]
 simp
theorem Rd.refuse (h : Rd w p g zs pos why) (e : Int) : Rd (w.setCell ⟨p, 2, none⟩ (.int .i64 e)) p g zs pos e := by
 refine ⟨?_, h.2.1.keeps (Keeps.setCell w p 2 _) h.2.2.1, h.2.2⟩
 simp only [World.setCell, Array.getElem?_modify]
 rw [if_pos trivial, h.1]
 simp
end
set_option maxHeartbeats 400000 in
theorem newReader_any {w : World} {u : Value} {zs : List Nat} (hs : Sl w u zs) (hl : zs.length ≤ 1099511627776) :
  Calls Tryz.prog 109 #[u] w fun e w' => ∃ p, e = .returned (.pointer (some ⟨p, 0, none⟩)) ∧ w.heap.size < p ∧ Rd w' p w.heap.size zs 0 0 ∧ Below w.heap.size w w' := by
 have HS : Hid (∀ z ∈ zs, z < 256) := hs.small
 have HC : Hid (Calls Tryz.prog 72 #[u] w fun e w' => e = .returned (.slice (some ⟨w.heap.size, 0, none⟩) zs.length zs.length) ∧ Row w' w.heap.size zs ∧ Below w.heap.size w w') := clone_any hs hl
 clear hs
 go_enter Tryz.func109, Tryz.ntmps109
 go_wp2_with fail
 refine HC.out.mono ?_
 rintro e w1 ⟨rfl, hr, hb⟩
 have HR : Hid (Row w1 w.heap.size zs) := hr
 have HB : Hid (Below w.heap.size w w1) := hb
 clear hr hb HC
 go_wp2
 go_ret
 refine ⟨_, rfl, HR.out.lt, ⟨heap_alloc_new w1 _, HR.out.below ((Below.refl _ _).alloc (Nat.le_refl _) _), Nat.ne_of_lt HR.out.lt, by omega, HS.out, hl⟩, HB.out.alloc HB.out.size _⟩
set_option maxHeartbeats 400000 in
theorem rat_any {w : World} {p g : Nat} {zs : List Nat} {pos : Nat} {why : Int} (h : Rd w p g zs pos why) :
  Calls Tryz.prog 58 #[.pointer (some ⟨p, 0, none⟩)] w fun e w' => e = .returned (.int .i64 (pos : Int)) ∧ w' = w := by
 have c1 := h.cell1
 clear h
 go_enter Tryz.func58, Tryz.ntmps58
 go_wp2
 go_ret
 exact ⟨rfl, rfl⟩
set_option maxHeartbeats 400000 in
theorem rerr_any {w : World} {p g : Nat} {zs : List Nat} {pos : Nat} {why : Int} (h : Rd w p g zs pos why) :
  Calls Tryz.prog 137 #[.pointer (some ⟨p, 0, none⟩)] w fun e w' => e = .returned (.int .i64 why) ∧ w' = w := by
 have c2 := h.cell2
 clear h
 go_enter Tryz.func137, Tryz.ntmps137
 go_wp2
 go_ret
 exact ⟨rfl, rfl⟩
set_option maxHeartbeats 400000 in
theorem rleft_any {w : World} {p g : Nat} {zs : List Nat} {pos : Nat} {why : Int} (h : Rd w p g zs pos why) :
  Calls Tryz.prog 107 #[.pointer (some ⟨p, 0, none⟩)] w fun e w' => e = .returned (.int .i64 ((zs.length - pos : Nat) : Int)) ∧ w'.heap = w.heap ∧ Below w.heap.size w w' := by
 have c0 := h.cell0
 have c1 := h.cell1
 have h1 := h.2.2.2.1
 have h2 := h.2.2.2.2.2
 have HE : Hid (((zs.length - pos : Nat) : Int) = (zs.length : Int) - (pos : Int)) := (by omega : ((zs.length - pos : Nat) : Int) = (zs.length : Int) - (pos : Int))
 clear h
 go_enter Tryz.func107, Tryz.ntmps107
 go_wp2
 first
 | (go_ret; exact ⟨by rw [HE.out]; rfl, rfl, Below.refl _ _⟩)
 | (go_region; all_goals (go_wp2; go_ret; exact ⟨by rw [HE.out]; rfl, rfl, (Below.refl _ _).drew⟩))
set_option maxHeartbeats 400000 in
theorem rest_any {w : World} {p g : Nat} {zs : List Nat} {pos : Nat} {why : Int} (h : Rd w p g zs pos why) :
  Calls Tryz.prog 117 #[.pointer (some ⟨p, 0, none⟩)] w fun e w' => ∃ ao c, e = .returned (.slice ao (zs.length - pos) c) ∧ Sl w' (.slice ao (zs.length - pos) c) (zs.drop pos) ∧ c = zs.length - pos ∧ (∀ a, ao = some a → a.block = g) ∧ w'.heap = w.heap ∧ Below w.heap.size w w' := by
 have c0 := h.cell0
 have c1 := h.cell1
 have h1 := h.2.2.2.1
 have h2 := h.2.2.2.2.2
 by_cases hc : zs.length = pos
 ·have HS : Hid (Sl w (.slice (some ⟨g, 0, none⟩) 0 0) (zs.drop pos)) := by
   have := h.sl
   rw [show (Value.slice (some ⟨g, 0, none⟩) zs.length zs.length) = Value.slice (some ⟨g, 0, none⟩) zs.length pos by rw [hc]] at this
   exact this.cutEnd
  clear h
  subst hc
  go_enter Tryz.func117, Tryz.ntmps117
  go_wp2
  go_region
  all_goals
   go_wp2
   go_ret
   exact ⟨some ⟨g, 0, none⟩, 0, by simp, by rw [Nat.sub_self]; exact HS.out, by omega, fun a e => by cases e; rfl, rfl, (Below.refl _ _).drew⟩
 ·have HS : Hid (Sl w (.slice (some ⟨g, pos, none⟩) (zs.length - pos) (zs.length - pos)) (zs.drop pos)) := by
   have := h.2.1.sl h.2.2.2.2.1 pos (zs.length - pos) (zs.length - pos) (by omega) (Nat.le_refl _) (by unfold maxLen; omega)
   rwa [List.take_of_length_le (by rw [List.length_drop]; omega)] at this
  clear h
  go_enter Tryz.func117, Tryz.ntmps117
  go_wp2
  go_region
  all_goals
   go_wp2
   go_ret
   exact ⟨_, _, rfl, HS.out, rfl, fun a e => by cases e; rfl, rfl, (Below.refl _ _).drew⟩
end Go.Proofs.YtnifefmfhjfbnaaGreatDoor
/- Get, take, and the Reader's calls Byte, Half, Word, Long. -/
namespace Go.Proofs.YtnifefmfhjfbnaaGreatDoor
open Go.RowKit
namespace Pl
/-- the number that m bytes from the k-th on are -/
def acc (zs : List Nat) : Nat → Nat → Nat
 | _, 0 => 0
 | k, m + 1 => zs.getD k 0 + 256 * acc zs (k + 1) m
def num (m : Nat) (zs : List Nat) : Nat := acc zs 0 m
theorem acc_lt {zs : List Nat} (h : ∀ z ∈ zs, z < 256) (k m : Nat) : acc zs k m < 256 ^ m := by
 induction m generalizing k with
 | zero => simp [acc]
 | succ m ih =>
  have h1 := mem_getD (k := k) h
  have h2 := ih (k + 1)
  show zs.getD k 0 + 256 * acc zs (k + 1) m < 256 ^ (m + 1)
  rw [Nat.pow_succ]
  omega
theorem acc_cons (x : Nat) (zs : List Nat) (k m : Nat) : acc (x :: zs) (k + 1) m = acc zs k m := by
 induction m generalizing k with
 | zero => rfl
 | succ m ih => show (x :: zs).getD (k + 1) 0 + _ = zs.getD k 0 + _; rw [ih]; rfl
/-- what le lays num reads -/
theorem num_le (m n : Nat) (r : List Nat) (h : n < 256 ^ m) : num m (le m n ++ r) = n := by
 induction m generalizing n with
 | zero => simp [num, acc]; simp at h; omega
 | succ m ih =>
  have hd : n / 256 < 256 ^ m := by rw [Nat.pow_succ] at h; exact Nat.div_lt_of_lt_mul (by omega)
  have e := ih (n / 256) hd
  show acc (n % 256 :: (le m (n / 256) ++ r)) 0 (m + 1) = n
  show n % 256 + 256 * acc (n % 256 :: (le m (n / 256) ++ r)) (0 + 1) m = n
  rw [acc_cons]
  rw [show acc (le m (n / 256) ++ r) 0 m = n / 256 from e]
  omega
end Pl
theorem Keeps.drew {S : Nat → Prop} {w w' : World} (h : Keeps S w w') : Keeps S w w'.drew := ⟨h.os, h.tape, h.output, h.size, h.block⟩
theorem Rd.drew {w : World} {p g : Nat} {zs : List Nat} {pos : Nat} {why : Int} (h : Rd w p g zs pos why) : Rd w.drew p g zs pos why := h
theorem or_byte (s z : Nat) (hs : s < 72057594037927936) (hz : z < 256) : bits .or .u64 ((s : Int) * 256) (z : Int) = ((z + 256 * s : Nat) : Int) := by
 have h := u64_or_nat (s * 256) z (by omega) (by omega)
 rw [nat_join 8 (s * 256) z (by simp) hz] at h
 rw [Int.natCast_mul] at h
 rw [show z + 256 * s = s * 256 + z from by omega]
 exact h

set_option maxHeartbeats 1000000 in
theorem get_u8_yes {zs : List Nat} {v : Value} {w : World} (hv : Sl w v zs) (hl : 1 ≤ zs.length) :
  Calls Tryz.prog 144 #[v] w fun e w' => e = .returned (.tuple #[.int .u8 (Pl.num 1 zs : Nat), .bool true]) ∧ w' = w := by
 obtain ⟨b, o, cap, rfl, h1, h2, h3, h4⟩ := hv.pos (by omega)
 have HC : Hid (∀ i, i < zs.length → w.cell? ⟨b, o + i, none⟩ = some (.int .u8 (zs.getD i 0 : Nat))) := h4
 have HZ : Hid (∀ z ∈ zs, z < 256) := h3
 unfold maxLen at h2
 clear h3 h4
 go_enter Tryz.func144, Tryz.ntmps144
 go_wp2_with (go_at_call 145; refine (size_u8 _).mono ?_; rintro e w' ⟨rfl, hw⟩; have hw := hw.symm; subst hw)
 go_loop [5, 6] (fun s i => ∃ j : Nat, j ≤ 1 ∧ i = .int .i64 ((j : Int) - 1) ∧ s = .int .u64 ((Pl.acc zs j (1 - j) : Nat) : Int)) (fun _ i => (intOf i + 1).toNat)
 case atStart => exact ⟨1, by omega, rfl, rfl⟩
 case round =>
  obtain ⟨j, hj, rfl, rfl⟩ := hrel
  rcases j with _ | k
  ·have HE : Hid (Pl.acc zs 0 (1 - 0) = Pl.num 1 zs) := (rfl : _ = _)
   have hb : Pl.acc zs 0 (1 - 0) < 256 ^ 1 := Pl.acc_lt HZ.out 0 1
   generalize Pl.acc zs 0 (1 - 0) = s at *
   have hb2 : s ≤ 255 := by simp at hb; omega
   clear hb
   go_wp2
   go_ret2
   exact ⟨by rw [← HE.out]; rfl, rfl⟩
  ·have hck := HC.out k (by omega)
   have hz := Pl.mem_getD (k := k) HZ.out
   have HA : Hid (Pl.acc zs k (1 - k) = zs.getD k 0 + 256 * Pl.acc zs (k + 1) (1 - (k + 1))) := by
    show _ = _
    rw [show 1 - k = (1 - (k + 1)) + 1 from by omega]
    rfl
   have hs0 := Pl.acc_lt HZ.out (k + 1) (1 - (k + 1))
   have hs : Pl.acc zs (k + 1) (1 - (k + 1)) < 72057594037927936 := Nat.lt_of_lt_of_le hs0 (Nat.le_trans (Nat.pow_le_pow_right (by decide) (show 1 - (k + 1) ≤ 7 by omega)) (by decide))
   clear hs0
   have hor := or_byte _ _ hs hz
   have HN := HA.out
   generalize Pl.acc zs (k + 1) (1 - (k + 1)) = s at *
   generalize zs.getD k 0 = z at *
   generalize z + 256 * s = t at *
   clear HN
   go_wp2
   go_round
   case rel => exact ⟨k, by omega, by go_num, by rw [HA.out]⟩
   case measure => simp [intOf]
set_option maxHeartbeats 400000 in
theorem get_u8_no {zs : List Nat} {v : Value} {w : World} (hv : Sl w v zs) (hl : zs.length < 1) :
  Calls Tryz.prog 144 #[v] w fun e w' => e = .returned (.tuple #[.int .u8 0, .bool false]) ∧ w' = w := by
 obtain ⟨ao, cap, rfl, _⟩ := hv
 go_enter Tryz.func144, Tryz.ntmps144
 go_wp2_with (go_at_call 145; refine (size_u8 _).mono ?_; rintro e w' ⟨rfl, hw⟩; have hw := hw.symm; subst hw)
 go_ret2
 exact ⟨rfl, rfl⟩

set_option maxRecDepth 100000 in
set_option maxHeartbeats 2000000 in
theorem take_u8_yes {w : World} {p g : Nat} {zs : List Nat} {pos : Nat} (h : Rd w p g zs pos 0) (hl : pos + 1 ≤ zs.length) :
  Calls Tryz.prog 138 #[.pointer (some ⟨p, 0, none⟩)] w fun e w' => e = .returned (.int .u8 (Pl.num 1 (zs.drop pos) : Nat)) ∧ Rd w' p g zs (pos + 1) 0 ∧ Keeps (fun k => k = p) w w' := by
 have c2 := h.cell2
 have HR : Hid (Rd w p g zs pos 0) := h
 have HE : Hid (Enters Tryz.prog 145) := enters_of Tryz.func145 (by kernel_rfl) rfl
 have h6 := h.2.2.2.2.2
 clear h
 go_enter Tryz.func138, Tryz.ntmps138
 go_wp2_with fail
 refine (rest_any HR.out).mono ?_
 rintro e w1 ⟨ao, c, rfl, hs, hc, ha, hh, hb⟩
 clear hc ha
 have HS : Hid (Sl w1 (.slice ao (zs.length - pos) c) (zs.drop pos)) := hs
 have HR1 : Hid (Rd w1 p g zs pos 0) := HR.out.keeps (Keeps.of_below (S := fun _ => False) hb) (fun h => h) (fun h => h)
 have HB : Hid (Below w.heap.size w w1) := hb
 clear hs hb hh c2
 go_wp2_with fail
 refine (get_u8_yes HS.out (by rw [List.length_drop]; omega)).mono ?_
 rintro e w' ⟨rfl, hw⟩
 rw [hw]
 clear hw w'
 have c1 := HR1.out.cell1
 have t1 := HR1.out.thawed 1
 have HN : Hid (IntKind.i64.wrap ((pos : Int) + 1) = ((pos + 1 : Nat) : Int)) := by show _ = _; rw [IntKind.wrap_i64]; omega
 go_wp2
 go_region_law (refine step_call rfl 145 #[] #[] rfl HE.out #[] (by first | (simp; done) | simp [Act.eval, Act.put]) (.int .i64 1) (size_u8 _) ?_)
 all_goals
  go_wp2
  go_ret
  refine ⟨rfl, ?_, ?_⟩
  ·rw [HN.out]
   exact (HR1.out.moved (pos + 1) (by omega)).drew
  ·exact (Keeps.of_below (w := w) HB.out).trans (Keeps.setCell w1 p 1 _).drew (fun i _ e => e)
set_option maxHeartbeats 1000000 in
theorem take_u8_no {w : World} {p g : Nat} {zs : List Nat} {pos : Nat} (h : Rd w p g zs pos 0) (hl : zs.length < pos + 1) :
  Calls Tryz.prog 138 #[.pointer (some ⟨p, 0, none⟩)] w fun e w' => e = .returned (.int .u8 0) ∧ Rd w' p g zs pos 10 ∧ Keeps (fun k => k = p) w w' := by
 have c2 := h.cell2
 have HR : Hid (Rd w p g zs pos 0) := h
 have h6 := h.2.2.2.2.2
 have h4 := h.2.2.2.1
 clear h
 go_enter Tryz.func138, Tryz.ntmps138
 go_wp2_with fail
 refine (rest_any HR.out).mono ?_
 rintro e w1 ⟨ao, c, rfl, hs, hc, ha, hh, hb⟩
 clear hc ha
 have HS : Hid (Sl w1 (.slice ao (zs.length - pos) c) (zs.drop pos)) := hs
 have HR1 : Hid (Rd w1 p g zs pos 0) := HR.out.keeps (Keeps.of_below (S := fun _ => False) hb) (fun h => h) (fun h => h)
 have HB : Hid (Below w.heap.size w w1) := hb
 clear hs hb hh c2
 go_wp2_with fail
 refine (get_u8_no HS.out (by rw [List.length_drop]; omega)).mono ?_
 rintro e w' ⟨rfl, hw⟩
 rw [hw]
 clear hw w'
 have c2 := HR1.out.cell2
 have t1 := HR1.out.thawed 2
 go_wp2
 go_ret
 exact ⟨rfl, HR1.out.refuse 10, (Keeps.of_below (w := w) HB.out).trans (Keeps.setCell w1 p 2 _) (fun i _ e => e)⟩
set_option maxHeartbeats 400000 in
theorem take_u8_not {w : World} {p g : Nat} {zs : List Nat} {pos : Nat} {why : Int} (h : Rd w p g zs pos why) (hw : why ≠ 0) :
  Calls Tryz.prog 138 #[.pointer (some ⟨p, 0, none⟩)] w fun e w' => e = .returned (.int .u8 0) ∧ w' = w := by
 have c2 := h.cell2
 have hb : (why != 0) = true := by simpa using hw
 clear h
 go_enter Tryz.func138, Tryz.ntmps138
 go_wp2
 go_ret
 exact ⟨rfl, rfl⟩

set_option maxHeartbeats 400000 in
theorem ru8_yes {w : World} {p g : Nat} {zs : List Nat} {pos : Nat} (h : Rd w p g zs pos 0) (hl : pos + 1 ≤ zs.length) :
  Calls Tryz.prog 124 #[.pointer (some ⟨p, 0, none⟩)] w fun e w' => e = .returned (.int .u8 (Pl.num 1 (zs.drop pos) : Nat)) ∧ Rd w' p g zs (pos + 1) 0 ∧ Keeps (fun k => k = p) w w' := by
 have HC : Hid (Calls Tryz.prog 138 #[.pointer (some ⟨p, 0, none⟩)] w fun e w' => e = .returned (.int .u8 (Pl.num 1 (zs.drop pos) : Nat)) ∧ Rd w' p g zs (pos + 1) 0 ∧ Keeps (fun k => k = p) w w') := take_u8_yes h hl
 clear h
 go_enter Tryz.func124, Tryz.ntmps124
 go_wp2_with fail
 refine HC.out.mono ?_
 rintro e w1 ⟨rfl, hx⟩
 have HX : Hid (Rd w1 p g zs (pos + 1) 0 ∧ Keeps (fun k => k = p) w w1) := hx
 clear hx HC
 go_wp2
 go_ret
 exact ⟨rfl, HX.out⟩

set_option maxHeartbeats 400000 in
theorem ru8_no {w : World} {p g : Nat} {zs : List Nat} {pos : Nat} (h : Rd w p g zs pos 0) (hl : zs.length < pos + 1) :
  Calls Tryz.prog 124 #[.pointer (some ⟨p, 0, none⟩)] w fun e w' => e = .returned (.int .u8 0) ∧ Rd w' p g zs pos 10 ∧ Keeps (fun k => k = p) w w' := by
 have HC : Hid (Calls Tryz.prog 138 #[.pointer (some ⟨p, 0, none⟩)] w fun e w' => e = .returned (.int .u8 0) ∧ Rd w' p g zs pos 10 ∧ Keeps (fun k => k = p) w w') := take_u8_no h hl
 clear h
 go_enter Tryz.func124, Tryz.ntmps124
 go_wp2_with fail
 refine HC.out.mono ?_
 rintro e w1 ⟨rfl, hx⟩
 have HX : Hid (Rd w1 p g zs pos 10 ∧ Keeps (fun k => k = p) w w1) := hx
 clear hx HC
 go_wp2
 go_ret
 exact ⟨rfl, HX.out⟩

set_option maxHeartbeats 400000 in
theorem ru8_not {w : World} {p g : Nat} {zs : List Nat} {pos : Nat} {why : Int} (h : Rd w p g zs pos why) (hw : why ≠ 0) :
  Calls Tryz.prog 124 #[.pointer (some ⟨p, 0, none⟩)] w fun e w' => e = .returned (.int .u8 0) ∧ w' = w := by
 have HC : Hid (Calls Tryz.prog 138 #[.pointer (some ⟨p, 0, none⟩)] w fun e w' => e = .returned (.int .u8 0) ∧ w' = w) := take_u8_not h hw
 clear h
 go_enter Tryz.func124, Tryz.ntmps124
 go_wp2_with fail
 refine HC.out.mono ?_
 rintro e w1 ⟨rfl, hx⟩
 have HX : Hid (w1 = w) := hx
 clear hx HC
 go_wp2
 go_ret
 exact ⟨rfl, HX.out⟩

set_option maxHeartbeats 1000000 in
theorem get_u16_yes {zs : List Nat} {v : Value} {w : World} (hv : Sl w v zs) (hl : 2 ≤ zs.length) :
  Calls Tryz.prog 134 #[v] w fun e w' => e = .returned (.tuple #[.int .u16 (Pl.num 2 zs : Nat), .bool true]) ∧ w' = w := by
 obtain ⟨b, o, cap, rfl, h1, h2, h3, h4⟩ := hv.pos (by omega)
 have HC : Hid (∀ i, i < zs.length → w.cell? ⟨b, o + i, none⟩ = some (.int .u8 (zs.getD i 0 : Nat))) := h4
 have HZ : Hid (∀ z ∈ zs, z < 256) := h3
 unfold maxLen at h2
 clear h3 h4
 go_enter Tryz.func134, Tryz.ntmps134
 go_wp2_with (go_at_call 131; refine (size_u16 _).mono ?_; rintro e w' ⟨rfl, hw⟩; have hw := hw.symm; subst hw)
 go_loop [5, 6] (fun s i => ∃ j : Nat, j ≤ 2 ∧ i = .int .i64 ((j : Int) - 1) ∧ s = .int .u64 ((Pl.acc zs j (2 - j) : Nat) : Int)) (fun _ i => (intOf i + 1).toNat)
 case atStart => exact ⟨2, by omega, rfl, rfl⟩
 case round =>
  obtain ⟨j, hj, rfl, rfl⟩ := hrel
  rcases j with _ | k
  ·have HE : Hid (Pl.acc zs 0 (2 - 0) = Pl.num 2 zs) := (rfl : _ = _)
   have hb : Pl.acc zs 0 (2 - 0) < 256 ^ 2 := Pl.acc_lt HZ.out 0 2
   generalize Pl.acc zs 0 (2 - 0) = s at *
   have hb2 : s ≤ 65535 := by simp at hb; omega
   clear hb
   go_wp2
   go_ret2
   exact ⟨by rw [← HE.out]; rfl, rfl⟩
  ·have hck := HC.out k (by omega)
   have hz := Pl.mem_getD (k := k) HZ.out
   have HA : Hid (Pl.acc zs k (2 - k) = zs.getD k 0 + 256 * Pl.acc zs (k + 1) (2 - (k + 1))) := by
    show _ = _
    rw [show 2 - k = (2 - (k + 1)) + 1 from by omega]
    rfl
   have hs0 := Pl.acc_lt HZ.out (k + 1) (2 - (k + 1))
   have hs : Pl.acc zs (k + 1) (2 - (k + 1)) < 72057594037927936 := Nat.lt_of_lt_of_le hs0 (Nat.le_trans (Nat.pow_le_pow_right (by decide) (show 2 - (k + 1) ≤ 7 by omega)) (by decide))
   clear hs0
   have hor := or_byte _ _ hs hz
   have HN := HA.out
   generalize Pl.acc zs (k + 1) (2 - (k + 1)) = s at *
   generalize zs.getD k 0 = z at *
   generalize z + 256 * s = t at *
   clear HN
   go_wp2
   go_round
   case rel => exact ⟨k, by omega, by go_num, by rw [HA.out]⟩
   case measure => simp [intOf]
set_option maxHeartbeats 400000 in
theorem get_u16_no {zs : List Nat} {v : Value} {w : World} (hv : Sl w v zs) (hl : zs.length < 2) :
  Calls Tryz.prog 134 #[v] w fun e w' => e = .returned (.tuple #[.int .u16 0, .bool false]) ∧ w' = w := by
 obtain ⟨ao, cap, rfl, _⟩ := hv
 go_enter Tryz.func134, Tryz.ntmps134
 go_wp2_with (go_at_call 131; refine (size_u16 _).mono ?_; rintro e w' ⟨rfl, hw⟩; have hw := hw.symm; subst hw)
 go_ret2
 exact ⟨rfl, rfl⟩

set_option maxRecDepth 100000 in
set_option maxHeartbeats 2000000 in
theorem take_u16_yes {w : World} {p g : Nat} {zs : List Nat} {pos : Nat} (h : Rd w p g zs pos 0) (hl : pos + 2 ≤ zs.length) :
  Calls Tryz.prog 118 #[.pointer (some ⟨p, 0, none⟩)] w fun e w' => e = .returned (.int .u16 (Pl.num 2 (zs.drop pos) : Nat)) ∧ Rd w' p g zs (pos + 2) 0 ∧ Keeps (fun k => k = p) w w' := by
 have c2 := h.cell2
 have HR : Hid (Rd w p g zs pos 0) := h
 have HE : Hid (Enters Tryz.prog 131) := enters_of Tryz.func131 (by kernel_rfl) rfl
 have h6 := h.2.2.2.2.2
 clear h
 go_enter Tryz.func118, Tryz.ntmps118
 go_wp2_with fail
 refine (rest_any HR.out).mono ?_
 rintro e w1 ⟨ao, c, rfl, hs, hc, ha, hh, hb⟩
 clear hc ha
 have HS : Hid (Sl w1 (.slice ao (zs.length - pos) c) (zs.drop pos)) := hs
 have HR1 : Hid (Rd w1 p g zs pos 0) := HR.out.keeps (Keeps.of_below (S := fun _ => False) hb) (fun h => h) (fun h => h)
 have HB : Hid (Below w.heap.size w w1) := hb
 clear hs hb hh c2
 go_wp2_with fail
 refine (get_u16_yes HS.out (by rw [List.length_drop]; omega)).mono ?_
 rintro e w' ⟨rfl, hw⟩
 rw [hw]
 clear hw w'
 have c1 := HR1.out.cell1
 have t1 := HR1.out.thawed 1
 have HN : Hid (IntKind.i64.wrap ((pos : Int) + 2) = ((pos + 2 : Nat) : Int)) := by show _ = _; rw [IntKind.wrap_i64]; omega
 go_wp2
 go_region_law (refine step_call rfl 131 #[] #[] rfl HE.out #[] (by first | (simp; done) | simp [Act.eval, Act.put]) (.int .i64 2) (size_u16 _) ?_)
 all_goals
  go_wp2
  go_ret
  refine ⟨rfl, ?_, ?_⟩
  ·rw [HN.out]
   exact (HR1.out.moved (pos + 2) (by omega)).drew
  ·exact (Keeps.of_below (w := w) HB.out).trans (Keeps.setCell w1 p 1 _).drew (fun i _ e => e)
set_option maxHeartbeats 1000000 in
theorem take_u16_no {w : World} {p g : Nat} {zs : List Nat} {pos : Nat} (h : Rd w p g zs pos 0) (hl : zs.length < pos + 2) :
  Calls Tryz.prog 118 #[.pointer (some ⟨p, 0, none⟩)] w fun e w' => e = .returned (.int .u16 0) ∧ Rd w' p g zs pos 10 ∧ Keeps (fun k => k = p) w w' := by
 have c2 := h.cell2
 have HR : Hid (Rd w p g zs pos 0) := h
 have h6 := h.2.2.2.2.2
 have h4 := h.2.2.2.1
 clear h
 go_enter Tryz.func118, Tryz.ntmps118
 go_wp2_with fail
 refine (rest_any HR.out).mono ?_
 rintro e w1 ⟨ao, c, rfl, hs, hc, ha, hh, hb⟩
 clear hc ha
 have HS : Hid (Sl w1 (.slice ao (zs.length - pos) c) (zs.drop pos)) := hs
 have HR1 : Hid (Rd w1 p g zs pos 0) := HR.out.keeps (Keeps.of_below (S := fun _ => False) hb) (fun h => h) (fun h => h)
 have HB : Hid (Below w.heap.size w w1) := hb
 clear hs hb hh c2
 go_wp2_with fail
 refine (get_u16_no HS.out (by rw [List.length_drop]; omega)).mono ?_
 rintro e w' ⟨rfl, hw⟩
 rw [hw]
 clear hw w'
 have c2 := HR1.out.cell2
 have t1 := HR1.out.thawed 2
 go_wp2
 go_ret
 exact ⟨rfl, HR1.out.refuse 10, (Keeps.of_below (w := w) HB.out).trans (Keeps.setCell w1 p 2 _) (fun i _ e => e)⟩
set_option maxHeartbeats 400000 in
theorem take_u16_not {w : World} {p g : Nat} {zs : List Nat} {pos : Nat} {why : Int} (h : Rd w p g zs pos why) (hw : why ≠ 0) :
  Calls Tryz.prog 118 #[.pointer (some ⟨p, 0, none⟩)] w fun e w' => e = .returned (.int .u16 0) ∧ w' = w := by
 have c2 := h.cell2
 have hb : (why != 0) = true := by simpa using hw
 clear h
 go_enter Tryz.func118, Tryz.ntmps118
 go_wp2
 go_ret
 exact ⟨rfl, rfl⟩

set_option maxHeartbeats 400000 in
theorem ru16_yes {w : World} {p g : Nat} {zs : List Nat} {pos : Nat} (h : Rd w p g zs pos 0) (hl : pos + 2 ≤ zs.length) :
  Calls Tryz.prog 81 #[.pointer (some ⟨p, 0, none⟩)] w fun e w' => e = .returned (.int .u16 (Pl.num 2 (zs.drop pos) : Nat)) ∧ Rd w' p g zs (pos + 2) 0 ∧ Keeps (fun k => k = p) w w' := by
 have HC : Hid (Calls Tryz.prog 118 #[.pointer (some ⟨p, 0, none⟩)] w fun e w' => e = .returned (.int .u16 (Pl.num 2 (zs.drop pos) : Nat)) ∧ Rd w' p g zs (pos + 2) 0 ∧ Keeps (fun k => k = p) w w') := take_u16_yes h hl
 clear h
 go_enter Tryz.func81, Tryz.ntmps81
 go_wp2_with fail
 refine HC.out.mono ?_
 rintro e w1 ⟨rfl, hx⟩
 have HX : Hid (Rd w1 p g zs (pos + 2) 0 ∧ Keeps (fun k => k = p) w w1) := hx
 clear hx HC
 go_wp2
 go_ret
 exact ⟨rfl, HX.out⟩

set_option maxHeartbeats 400000 in
theorem ru16_no {w : World} {p g : Nat} {zs : List Nat} {pos : Nat} (h : Rd w p g zs pos 0) (hl : zs.length < pos + 2) :
  Calls Tryz.prog 81 #[.pointer (some ⟨p, 0, none⟩)] w fun e w' => e = .returned (.int .u16 0) ∧ Rd w' p g zs pos 10 ∧ Keeps (fun k => k = p) w w' := by
 have HC : Hid (Calls Tryz.prog 118 #[.pointer (some ⟨p, 0, none⟩)] w fun e w' => e = .returned (.int .u16 0) ∧ Rd w' p g zs pos 10 ∧ Keeps (fun k => k = p) w w') := take_u16_no h hl
 clear h
 go_enter Tryz.func81, Tryz.ntmps81
 go_wp2_with fail
 refine HC.out.mono ?_
 rintro e w1 ⟨rfl, hx⟩
 have HX : Hid (Rd w1 p g zs pos 10 ∧ Keeps (fun k => k = p) w w1) := hx
 clear hx HC
 go_wp2
 go_ret
 exact ⟨rfl, HX.out⟩

set_option maxHeartbeats 400000 in
theorem ru16_not {w : World} {p g : Nat} {zs : List Nat} {pos : Nat} {why : Int} (h : Rd w p g zs pos why) (hw : why ≠ 0) :
  Calls Tryz.prog 81 #[.pointer (some ⟨p, 0, none⟩)] w fun e w' => e = .returned (.int .u16 0) ∧ w' = w := by
 have HC : Hid (Calls Tryz.prog 118 #[.pointer (some ⟨p, 0, none⟩)] w fun e w' => e = .returned (.int .u16 0) ∧ w' = w) := take_u16_not h hw
 clear h
 go_enter Tryz.func81, Tryz.ntmps81
 go_wp2_with fail
 refine HC.out.mono ?_
 rintro e w1 ⟨rfl, hx⟩
 have HX : Hid (w1 = w) := hx
 clear hx HC
 go_wp2
 go_ret
 exact ⟨rfl, HX.out⟩

set_option maxHeartbeats 1000000 in
theorem get_u32_yes {zs : List Nat} {v : Value} {w : World} (hv : Sl w v zs) (hl : 4 ≤ zs.length) :
  Calls Tryz.prog 135 #[v] w fun e w' => e = .returned (.tuple #[.int .u32 (Pl.num 4 zs : Nat), .bool true]) ∧ w' = w := by
 obtain ⟨b, o, cap, rfl, h1, h2, h3, h4⟩ := hv.pos (by omega)
 have HC : Hid (∀ i, i < zs.length → w.cell? ⟨b, o + i, none⟩ = some (.int .u8 (zs.getD i 0 : Nat))) := h4
 have HZ : Hid (∀ z ∈ zs, z < 256) := h3
 unfold maxLen at h2
 clear h3 h4
 go_enter Tryz.func135, Tryz.ntmps135
 go_wp2_with (go_at_call 132; refine (size_u32 _).mono ?_; rintro e w' ⟨rfl, hw⟩; have hw := hw.symm; subst hw)
 go_loop [5, 6] (fun s i => ∃ j : Nat, j ≤ 4 ∧ i = .int .i64 ((j : Int) - 1) ∧ s = .int .u64 ((Pl.acc zs j (4 - j) : Nat) : Int)) (fun _ i => (intOf i + 1).toNat)
 case atStart => exact ⟨4, by omega, rfl, rfl⟩
 case round =>
  obtain ⟨j, hj, rfl, rfl⟩ := hrel
  rcases j with _ | k
  ·have HE : Hid (Pl.acc zs 0 (4 - 0) = Pl.num 4 zs) := (rfl : _ = _)
   have hb : Pl.acc zs 0 (4 - 0) < 256 ^ 4 := Pl.acc_lt HZ.out 0 4
   generalize Pl.acc zs 0 (4 - 0) = s at *
   have hb2 : s ≤ 4294967295 := by simp at hb; omega
   clear hb
   go_wp2
   go_ret2
   exact ⟨by rw [← HE.out]; rfl, rfl⟩
  ·have hck := HC.out k (by omega)
   have hz := Pl.mem_getD (k := k) HZ.out
   have HA : Hid (Pl.acc zs k (4 - k) = zs.getD k 0 + 256 * Pl.acc zs (k + 1) (4 - (k + 1))) := by
    show _ = _
    rw [show 4 - k = (4 - (k + 1)) + 1 from by omega]
    rfl
   have hs0 := Pl.acc_lt HZ.out (k + 1) (4 - (k + 1))
   have hs : Pl.acc zs (k + 1) (4 - (k + 1)) < 72057594037927936 := Nat.lt_of_lt_of_le hs0 (Nat.le_trans (Nat.pow_le_pow_right (by decide) (show 4 - (k + 1) ≤ 7 by omega)) (by decide))
   clear hs0
   have hor := or_byte _ _ hs hz
   have HN := HA.out
   generalize Pl.acc zs (k + 1) (4 - (k + 1)) = s at *
   generalize zs.getD k 0 = z at *
   generalize z + 256 * s = t at *
   clear HN
   go_wp2
   go_round
   case rel => exact ⟨k, by omega, by go_num, by rw [HA.out]⟩
   case measure => simp [intOf]
set_option maxHeartbeats 400000 in
theorem get_u32_no {zs : List Nat} {v : Value} {w : World} (hv : Sl w v zs) (hl : zs.length < 4) :
  Calls Tryz.prog 135 #[v] w fun e w' => e = .returned (.tuple #[.int .u32 0, .bool false]) ∧ w' = w := by
 obtain ⟨ao, cap, rfl, _⟩ := hv
 go_enter Tryz.func135, Tryz.ntmps135
 go_wp2_with (go_at_call 132; refine (size_u32 _).mono ?_; rintro e w' ⟨rfl, hw⟩; have hw := hw.symm; subst hw)
 go_ret2
 exact ⟨rfl, rfl⟩

set_option maxRecDepth 100000 in
set_option maxHeartbeats 2000000 in
theorem take_u32_yes {w : World} {p g : Nat} {zs : List Nat} {pos : Nat} (h : Rd w p g zs pos 0) (hl : pos + 4 ≤ zs.length) :
  Calls Tryz.prog 119 #[.pointer (some ⟨p, 0, none⟩)] w fun e w' => e = .returned (.int .u32 (Pl.num 4 (zs.drop pos) : Nat)) ∧ Rd w' p g zs (pos + 4) 0 ∧ Keeps (fun k => k = p) w w' := by
 have c2 := h.cell2
 have HR : Hid (Rd w p g zs pos 0) := h
 have HE : Hid (Enters Tryz.prog 132) := enters_of Tryz.func132 (by kernel_rfl) rfl
 have h6 := h.2.2.2.2.2
 clear h
 go_enter Tryz.func119, Tryz.ntmps119
 go_wp2_with fail
 refine (rest_any HR.out).mono ?_
 rintro e w1 ⟨ao, c, rfl, hs, hc, ha, hh, hb⟩
 clear hc ha
 have HS : Hid (Sl w1 (.slice ao (zs.length - pos) c) (zs.drop pos)) := hs
 have HR1 : Hid (Rd w1 p g zs pos 0) := HR.out.keeps (Keeps.of_below (S := fun _ => False) hb) (fun h => h) (fun h => h)
 have HB : Hid (Below w.heap.size w w1) := hb
 clear hs hb hh c2
 go_wp2_with fail
 refine (get_u32_yes HS.out (by rw [List.length_drop]; omega)).mono ?_
 rintro e w' ⟨rfl, hw⟩
 rw [hw]
 clear hw w'
 have c1 := HR1.out.cell1
 have t1 := HR1.out.thawed 1
 have HN : Hid (IntKind.i64.wrap ((pos : Int) + 4) = ((pos + 4 : Nat) : Int)) := by show _ = _; rw [IntKind.wrap_i64]; omega
 go_wp2
 go_region_law (refine step_call rfl 132 #[] #[] rfl HE.out #[] (by first | (simp; done) | simp [Act.eval, Act.put]) (.int .i64 4) (size_u32 _) ?_)
 all_goals
  go_wp2
  go_ret
  refine ⟨rfl, ?_, ?_⟩
  ·rw [HN.out]
   exact (HR1.out.moved (pos + 4) (by omega)).drew
  ·exact (Keeps.of_below (w := w) HB.out).trans (Keeps.setCell w1 p 1 _).drew (fun i _ e => e)
set_option maxHeartbeats 1000000 in
theorem take_u32_no {w : World} {p g : Nat} {zs : List Nat} {pos : Nat} (h : Rd w p g zs pos 0) (hl : zs.length < pos + 4) :
  Calls Tryz.prog 119 #[.pointer (some ⟨p, 0, none⟩)] w fun e w' => e = .returned (.int .u32 0) ∧ Rd w' p g zs pos 10 ∧ Keeps (fun k => k = p) w w' := by
 have c2 := h.cell2
 have HR : Hid (Rd w p g zs pos 0) := h
 have h6 := h.2.2.2.2.2
 have h4 := h.2.2.2.1
 clear h
 go_enter Tryz.func119, Tryz.ntmps119
 go_wp2_with fail
 refine (rest_any HR.out).mono ?_
 rintro e w1 ⟨ao, c, rfl, hs, hc, ha, hh, hb⟩
 clear hc ha
 have HS : Hid (Sl w1 (.slice ao (zs.length - pos) c) (zs.drop pos)) := hs
 have HR1 : Hid (Rd w1 p g zs pos 0) := HR.out.keeps (Keeps.of_below (S := fun _ => False) hb) (fun h => h) (fun h => h)
 have HB : Hid (Below w.heap.size w w1) := hb
 clear hs hb hh c2
 go_wp2_with fail
 refine (get_u32_no HS.out (by rw [List.length_drop]; omega)).mono ?_
 rintro e w' ⟨rfl, hw⟩
 rw [hw]
 clear hw w'
 have c2 := HR1.out.cell2
 have t1 := HR1.out.thawed 2
 go_wp2
 go_ret
 exact ⟨rfl, HR1.out.refuse 10, (Keeps.of_below (w := w) HB.out).trans (Keeps.setCell w1 p 2 _) (fun i _ e => e)⟩
set_option maxHeartbeats 400000 in
theorem take_u32_not {w : World} {p g : Nat} {zs : List Nat} {pos : Nat} {why : Int} (h : Rd w p g zs pos why) (hw : why ≠ 0) :
  Calls Tryz.prog 119 #[.pointer (some ⟨p, 0, none⟩)] w fun e w' => e = .returned (.int .u32 0) ∧ w' = w := by
 have c2 := h.cell2
 have hb : (why != 0) = true := by simpa using hw
 clear h
 go_enter Tryz.func119, Tryz.ntmps119
 go_wp2
 go_ret
 exact ⟨rfl, rfl⟩

set_option maxHeartbeats 400000 in
theorem ru32_yes {w : World} {p g : Nat} {zs : List Nat} {pos : Nat} (h : Rd w p g zs pos 0) (hl : pos + 4 ≤ zs.length) :
  Calls Tryz.prog 82 #[.pointer (some ⟨p, 0, none⟩)] w fun e w' => e = .returned (.int .u32 (Pl.num 4 (zs.drop pos) : Nat)) ∧ Rd w' p g zs (pos + 4) 0 ∧ Keeps (fun k => k = p) w w' := by
 have HC : Hid (Calls Tryz.prog 119 #[.pointer (some ⟨p, 0, none⟩)] w fun e w' => e = .returned (.int .u32 (Pl.num 4 (zs.drop pos) : Nat)) ∧ Rd w' p g zs (pos + 4) 0 ∧ Keeps (fun k => k = p) w w') := take_u32_yes h hl
 clear h
 go_enter Tryz.func82, Tryz.ntmps82
 go_wp2_with fail
 refine HC.out.mono ?_
 rintro e w1 ⟨rfl, hx⟩
 have HX : Hid (Rd w1 p g zs (pos + 4) 0 ∧ Keeps (fun k => k = p) w w1) := hx
 clear hx HC
 go_wp2
 go_ret
 exact ⟨rfl, HX.out⟩

set_option maxHeartbeats 400000 in
theorem ru32_no {w : World} {p g : Nat} {zs : List Nat} {pos : Nat} (h : Rd w p g zs pos 0) (hl : zs.length < pos + 4) :
  Calls Tryz.prog 82 #[.pointer (some ⟨p, 0, none⟩)] w fun e w' => e = .returned (.int .u32 0) ∧ Rd w' p g zs pos 10 ∧ Keeps (fun k => k = p) w w' := by
 have HC : Hid (Calls Tryz.prog 119 #[.pointer (some ⟨p, 0, none⟩)] w fun e w' => e = .returned (.int .u32 0) ∧ Rd w' p g zs pos 10 ∧ Keeps (fun k => k = p) w w') := take_u32_no h hl
 clear h
 go_enter Tryz.func82, Tryz.ntmps82
 go_wp2_with fail
 refine HC.out.mono ?_
 rintro e w1 ⟨rfl, hx⟩
 have HX : Hid (Rd w1 p g zs pos 10 ∧ Keeps (fun k => k = p) w w1) := hx
 clear hx HC
 go_wp2
 go_ret
 exact ⟨rfl, HX.out⟩

set_option maxHeartbeats 400000 in
theorem ru32_not {w : World} {p g : Nat} {zs : List Nat} {pos : Nat} {why : Int} (h : Rd w p g zs pos why) (hw : why ≠ 0) :
  Calls Tryz.prog 82 #[.pointer (some ⟨p, 0, none⟩)] w fun e w' => e = .returned (.int .u32 0) ∧ w' = w := by
 have HC : Hid (Calls Tryz.prog 119 #[.pointer (some ⟨p, 0, none⟩)] w fun e w' => e = .returned (.int .u32 0) ∧ w' = w) := take_u32_not h hw
 clear h
 go_enter Tryz.func82, Tryz.ntmps82
 go_wp2_with fail
 refine HC.out.mono ?_
 rintro e w1 ⟨rfl, hx⟩
 have HX : Hid (w1 = w) := hx
 clear hx HC
 go_wp2
 go_ret
 exact ⟨rfl, HX.out⟩

set_option maxHeartbeats 1000000 in
theorem get_u64_yes {zs : List Nat} {v : Value} {w : World} (hv : Sl w v zs) (hl : 8 ≤ zs.length) :
  Calls Tryz.prog 136 #[v] w fun e w' => e = .returned (.tuple #[.int .u64 (Pl.num 8 zs : Nat), .bool true]) ∧ w' = w := by
 obtain ⟨b, o, cap, rfl, h1, h2, h3, h4⟩ := hv.pos (by omega)
 have HC : Hid (∀ i, i < zs.length → w.cell? ⟨b, o + i, none⟩ = some (.int .u8 (zs.getD i 0 : Nat))) := h4
 have HZ : Hid (∀ z ∈ zs, z < 256) := h3
 unfold maxLen at h2
 clear h3 h4
 go_enter Tryz.func136, Tryz.ntmps136
 go_wp2_with (go_at_call 133; refine (size_u64 _).mono ?_; rintro e w' ⟨rfl, hw⟩; have hw := hw.symm; subst hw)
 go_loop [5, 6] (fun s i => ∃ j : Nat, j ≤ 8 ∧ i = .int .i64 ((j : Int) - 1) ∧ s = .int .u64 ((Pl.acc zs j (8 - j) : Nat) : Int)) (fun _ i => (intOf i + 1).toNat)
 case atStart => exact ⟨8, by omega, rfl, rfl⟩
 case round =>
  obtain ⟨j, hj, rfl, rfl⟩ := hrel
  rcases j with _ | k
  ·have HE : Hid (Pl.acc zs 0 (8 - 0) = Pl.num 8 zs) := (rfl : _ = _)
   have hb : Pl.acc zs 0 (8 - 0) < 256 ^ 8 := Pl.acc_lt HZ.out 0 8
   generalize Pl.acc zs 0 (8 - 0) = s at *
   have hb2 : s ≤ 18446744073709551615 := by simp at hb; omega
   clear hb
   go_wp2
   go_ret2
   exact ⟨by rw [← HE.out]; rfl, rfl⟩
  ·have hck := HC.out k (by omega)
   have hz := Pl.mem_getD (k := k) HZ.out
   have HA : Hid (Pl.acc zs k (8 - k) = zs.getD k 0 + 256 * Pl.acc zs (k + 1) (8 - (k + 1))) := by
    show _ = _
    rw [show 8 - k = (8 - (k + 1)) + 1 from by omega]
    rfl
   have hs0 := Pl.acc_lt HZ.out (k + 1) (8 - (k + 1))
   have hs : Pl.acc zs (k + 1) (8 - (k + 1)) < 72057594037927936 := Nat.lt_of_lt_of_le hs0 (Nat.le_trans (Nat.pow_le_pow_right (by decide) (show 8 - (k + 1) ≤ 7 by omega)) (by decide))
   clear hs0
   have hor := or_byte _ _ hs hz
   have HN := HA.out
   generalize Pl.acc zs (k + 1) (8 - (k + 1)) = s at *
   generalize zs.getD k 0 = z at *
   generalize z + 256 * s = t at *
   clear HN
   go_wp2
   go_round
   case rel => exact ⟨k, by omega, by go_num, by rw [HA.out]⟩
   case measure => simp [intOf]
set_option maxHeartbeats 400000 in
theorem get_u64_no {zs : List Nat} {v : Value} {w : World} (hv : Sl w v zs) (hl : zs.length < 8) :
  Calls Tryz.prog 136 #[v] w fun e w' => e = .returned (.tuple #[.int .u64 0, .bool false]) ∧ w' = w := by
 obtain ⟨ao, cap, rfl, _⟩ := hv
 go_enter Tryz.func136, Tryz.ntmps136
 go_wp2_with (go_at_call 133; refine (size_u64 _).mono ?_; rintro e w' ⟨rfl, hw⟩; have hw := hw.symm; subst hw)
 go_ret2
 exact ⟨rfl, rfl⟩

set_option maxRecDepth 100000 in
set_option maxHeartbeats 2000000 in
theorem take_u64_yes {w : World} {p g : Nat} {zs : List Nat} {pos : Nat} (h : Rd w p g zs pos 0) (hl : pos + 8 ≤ zs.length) :
  Calls Tryz.prog 120 #[.pointer (some ⟨p, 0, none⟩)] w fun e w' => e = .returned (.int .u64 (Pl.num 8 (zs.drop pos) : Nat)) ∧ Rd w' p g zs (pos + 8) 0 ∧ Keeps (fun k => k = p) w w' := by
 have c2 := h.cell2
 have HR : Hid (Rd w p g zs pos 0) := h
 have HE : Hid (Enters Tryz.prog 133) := enters_of Tryz.func133 (by kernel_rfl) rfl
 have h6 := h.2.2.2.2.2
 clear h
 go_enter Tryz.func120, Tryz.ntmps120
 go_wp2_with fail
 refine (rest_any HR.out).mono ?_
 rintro e w1 ⟨ao, c, rfl, hs, hc, ha, hh, hb⟩
 clear hc ha
 have HS : Hid (Sl w1 (.slice ao (zs.length - pos) c) (zs.drop pos)) := hs
 have HR1 : Hid (Rd w1 p g zs pos 0) := HR.out.keeps (Keeps.of_below (S := fun _ => False) hb) (fun h => h) (fun h => h)
 have HB : Hid (Below w.heap.size w w1) := hb
 clear hs hb hh c2
 go_wp2_with fail
 refine (get_u64_yes HS.out (by rw [List.length_drop]; omega)).mono ?_
 rintro e w' ⟨rfl, hw⟩
 rw [hw]
 clear hw w'
 have c1 := HR1.out.cell1
 have t1 := HR1.out.thawed 1
 have HN : Hid (IntKind.i64.wrap ((pos : Int) + 8) = ((pos + 8 : Nat) : Int)) := by show _ = _; rw [IntKind.wrap_i64]; omega
 go_wp2
 go_region_law (refine step_call rfl 133 #[] #[] rfl HE.out #[] (by first | (simp; done) | simp [Act.eval, Act.put]) (.int .i64 8) (size_u64 _) ?_)
 all_goals
  go_wp2
  go_ret
  refine ⟨rfl, ?_, ?_⟩
  ·rw [HN.out]
   exact (HR1.out.moved (pos + 8) (by omega)).drew
  ·exact (Keeps.of_below (w := w) HB.out).trans (Keeps.setCell w1 p 1 _).drew (fun i _ e => e)
set_option maxHeartbeats 1000000 in
theorem take_u64_no {w : World} {p g : Nat} {zs : List Nat} {pos : Nat} (h : Rd w p g zs pos 0) (hl : zs.length < pos + 8) :
  Calls Tryz.prog 120 #[.pointer (some ⟨p, 0, none⟩)] w fun e w' => e = .returned (.int .u64 0) ∧ Rd w' p g zs pos 10 ∧ Keeps (fun k => k = p) w w' := by
 have c2 := h.cell2
 have HR : Hid (Rd w p g zs pos 0) := h
 have h6 := h.2.2.2.2.2
 have h4 := h.2.2.2.1
 clear h
 go_enter Tryz.func120, Tryz.ntmps120
 go_wp2_with fail
 refine (rest_any HR.out).mono ?_
 rintro e w1 ⟨ao, c, rfl, hs, hc, ha, hh, hb⟩
 clear hc ha
 have HS : Hid (Sl w1 (.slice ao (zs.length - pos) c) (zs.drop pos)) := hs
 have HR1 : Hid (Rd w1 p g zs pos 0) := HR.out.keeps (Keeps.of_below (S := fun _ => False) hb) (fun h => h) (fun h => h)
 have HB : Hid (Below w.heap.size w w1) := hb
 clear hs hb hh c2
 go_wp2_with fail
 refine (get_u64_no HS.out (by rw [List.length_drop]; omega)).mono ?_
 rintro e w' ⟨rfl, hw⟩
 rw [hw]
 clear hw w'
 have c2 := HR1.out.cell2
 have t1 := HR1.out.thawed 2
 go_wp2
 go_ret
 exact ⟨rfl, HR1.out.refuse 10, (Keeps.of_below (w := w) HB.out).trans (Keeps.setCell w1 p 2 _) (fun i _ e => e)⟩
set_option maxHeartbeats 400000 in
theorem take_u64_not {w : World} {p g : Nat} {zs : List Nat} {pos : Nat} {why : Int} (h : Rd w p g zs pos why) (hw : why ≠ 0) :
  Calls Tryz.prog 120 #[.pointer (some ⟨p, 0, none⟩)] w fun e w' => e = .returned (.int .u64 0) ∧ w' = w := by
 have c2 := h.cell2
 have hb : (why != 0) = true := by simpa using hw
 clear h
 go_enter Tryz.func120, Tryz.ntmps120
 go_wp2
 go_ret
 exact ⟨rfl, rfl⟩

set_option maxHeartbeats 400000 in
theorem ru64_yes {w : World} {p g : Nat} {zs : List Nat} {pos : Nat} (h : Rd w p g zs pos 0) (hl : pos + 8 ≤ zs.length) :
  Calls Tryz.prog 83 #[.pointer (some ⟨p, 0, none⟩)] w fun e w' => e = .returned (.int .u64 (Pl.num 8 (zs.drop pos) : Nat)) ∧ Rd w' p g zs (pos + 8) 0 ∧ Keeps (fun k => k = p) w w' := by
 have HC : Hid (Calls Tryz.prog 120 #[.pointer (some ⟨p, 0, none⟩)] w fun e w' => e = .returned (.int .u64 (Pl.num 8 (zs.drop pos) : Nat)) ∧ Rd w' p g zs (pos + 8) 0 ∧ Keeps (fun k => k = p) w w') := take_u64_yes h hl
 clear h
 go_enter Tryz.func83, Tryz.ntmps83
 go_wp2_with fail
 refine HC.out.mono ?_
 rintro e w1 ⟨rfl, hx⟩
 have HX : Hid (Rd w1 p g zs (pos + 8) 0 ∧ Keeps (fun k => k = p) w w1) := hx
 clear hx HC
 go_wp2
 go_ret
 exact ⟨rfl, HX.out⟩

set_option maxHeartbeats 400000 in
theorem ru64_no {w : World} {p g : Nat} {zs : List Nat} {pos : Nat} (h : Rd w p g zs pos 0) (hl : zs.length < pos + 8) :
  Calls Tryz.prog 83 #[.pointer (some ⟨p, 0, none⟩)] w fun e w' => e = .returned (.int .u64 0) ∧ Rd w' p g zs pos 10 ∧ Keeps (fun k => k = p) w w' := by
 have HC : Hid (Calls Tryz.prog 120 #[.pointer (some ⟨p, 0, none⟩)] w fun e w' => e = .returned (.int .u64 0) ∧ Rd w' p g zs pos 10 ∧ Keeps (fun k => k = p) w w') := take_u64_no h hl
 clear h
 go_enter Tryz.func83, Tryz.ntmps83
 go_wp2_with fail
 refine HC.out.mono ?_
 rintro e w1 ⟨rfl, hx⟩
 have HX : Hid (Rd w1 p g zs pos 10 ∧ Keeps (fun k => k = p) w w1) := hx
 clear hx HC
 go_wp2
 go_ret
 exact ⟨rfl, HX.out⟩

set_option maxHeartbeats 400000 in
theorem ru64_not {w : World} {p g : Nat} {zs : List Nat} {pos : Nat} {why : Int} (h : Rd w p g zs pos why) (hw : why ≠ 0) :
  Calls Tryz.prog 83 #[.pointer (some ⟨p, 0, none⟩)] w fun e w' => e = .returned (.int .u64 0) ∧ w' = w := by
 have HC : Hid (Calls Tryz.prog 120 #[.pointer (some ⟨p, 0, none⟩)] w fun e w' => e = .returned (.int .u64 0) ∧ w' = w) := take_u64_not h hw
 clear h
 go_enter Tryz.func83, Tryz.ntmps83
 go_wp2_with fail
 refine HC.out.mono ?_
 rintro e w1 ⟨rfl, hx⟩
 have HX : Hid (w1 = w) := hx
 clear hx HC
 go_wp2
 go_ret
 exact ⟨rfl, HX.out⟩

end Go.Proofs.YtnifefmfhjfbnaaGreatDoor
