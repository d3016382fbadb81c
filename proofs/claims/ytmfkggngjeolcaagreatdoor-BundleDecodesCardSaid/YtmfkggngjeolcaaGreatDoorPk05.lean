import Derived.Test.YtmfkggngjeolcaaGreatDoorPk04
set_option linter.unusedVariables false
set_option maxHeartbeats 2000000
set_option maxRecDepth 100000
namespace Go.Proofs.YtmfkggngjeolcaaGreatDoor
namespace Bn
abbrev Rg := Nat × Nat
structure Tn where
 cpu : Int
 root : Int
 st : Bool
 rule : Int
 to : Int
 vec : Int
structure Gd where
 ad : Nat
 sz : Nat
 fill : Nat
 txt : ByteArray
structure Lk where
 fr : Int
 to : Int
 eff : Int
 vec : Int
 msk : Bool
structure Sc where
 maj : Int
 lanes : List (List (Int × Int))
structure Im where
 base : Nat
 rams : List Rg
 devs : List Rg
 subs : List Tn
 ports : List Int
 regs : List Gd
 chs : List Lk
 irqs : List Lk
 plans : List Sc
 master : Int
 start : Int
 tabs : List (Nat → Nat)
abbrev S := List Nat × Int
def byteS (k : Int) (s : S) : S := (s.1 ++ Pl.le 1 (k % 256).toNat, fieldF s.2 (fitB 0 255 k))
def flagS (b : Bool) (s : S) : S := byteS (if b = true then 1 else 0) s
def halfS (k : Int) (s : S) : S := (s.1 ++ Pl.le 2 (k % 65536).toNat, fieldF s.2 (fitB 0 65535 k))
def noneS (k : Int) (s : S) : S := (s.1 ++ Pl.le 2 (k % 65536).toNat, fieldF s.2 (noneB k))
def wordS (k : Int) (s : S) : S := (s.1 ++ Pl.le 4 (k % 4294967296).toNat, fieldF s.2 (fitB 0 4294967295 k))
def longS (m : Nat) (s : S) : S := (s.1 ++ Pl.le 8 m, s.2)
def zerosS (c : Nat) (s : S) : S := (s.1 ++ List.replicate c 0, s.2)
def fieldS (b : Bool) (s : S) : S := (s.1, fieldF s.2 b)
def askS (b : Bool) (no : Int) (s : S) : S := (s.1, askF s.2 b no)
def bytesS (ys : List Nat) (s : S) : S := (s.1 ++ ys, s.2)
def manyS (n : Nat) (s : S) : S := zerosS 6 (halfS (n : Int) s)
def upN (a al : Nat) : Nat := if a % al = 0 then a else a + (al - a % al)
def padS (al : Nat) (s : S) : S := zerosS (upN s.1.length al - s.1.length) s
def bts (t : ByteArray) : List Nat := t.data.toList.map UInt8.toNat
def textS (t : ByteArray) (s : S) : S := padS 8 (bytesS (bts t) (wordS (t.size : Int) (askS (decide (t.size ≤ 1048576)) 3 s)))
def rangeS (r : Rg) (s : S) : S := longS r.2 (longS r.1 s)
def tenS (x : Tn) (s : S) : S := noneS x.root (noneS x.to (byteS x.vec (byteS x.rule (flagS x.st (byteS x.cpu s)))))
def portS (r : Int) (s : S) : S := zerosS 6 (noneS r s)
def gdS (g : Gd) (s : S) : S := textS g.txt (zerosS 3 (byteS (g.fill : Int) (longS g.sz (longS g.ad s))))
def chS (c : Lk) (s : S) : S := zerosS 2 (byteS c.vec (byteS c.eff (noneS c.to (noneS c.fr (fieldS (!c.msk) s)))))
def iqS (c : Lk) (s : S) : S := zerosS 2 (flagS c.msk (byteS c.vec (noneS c.to (noneS c.fr (fieldS (decide (c.eff = 1)) s)))))
def stS (x : Int × Int) (s : S) : S := wordS x.2 (zerosS 2 (noneS x.1 s))
def eachS {α : Type} (f : α → S → S) : List α → S → S
 | [], s => s
 | x :: xs, s => eachS f xs (f x s)
theorem eachS_take {α : Type} (f : α → S → S) : ∀ (xs : List α) (s : S) (i : Nat) (h : i < xs.length), eachS f (xs.take (i + 1)) s = f xs[i] (eachS f (xs.take i) s)
 | x :: xs, s, 0, h => by simp [eachS]
 | x :: xs, s, i + 1, h => by
  have := eachS_take f xs (f x s) i (by simpa using h)
  simpa [eachS] using this
def laneS (l : List (Int × Int)) (s : S) : S := eachS stS l (manyS l.length s)
def planS (n : Nat) (p : Sc) (s : S) : S := eachS laneS p.lanes (zerosS 4 (wordS p.maj (fieldS (decide (p.lanes.length = n)) s)))
def tb (f : Nat → Nat) : Nat → List Nat
 | 0 => []
 | k + 1 => tb f k ++ Pl.le 8 (f k)
def tabS (f : Nat → Nat) (s : S) : S := bytesS (tb f 512) s
def roomS (I : Im) (s : S) : S := zerosS 160 (fieldS (decide (I.base % 4096 = 0)) s)
def busS (I : Im) (s : S) : S := eachS rangeS I.devs (eachS rangeS I.rams (zerosS 4 (halfS (I.devs.length : Int) (halfS (I.rams.length : Int) s))))
def subsS (I : Im) (s : S) : S := eachS tenS I.subs (manyS I.subs.length s)
def portsS (I : Im) (s : S) : S := eachS portS I.ports (manyS I.ports.length (fieldS (decide (I.ports.length = I.devs.length)) s))
def regsS (I : Im) (s : S) : S := eachS gdS I.regs (manyS I.regs.length s)
def chsS (I : Im) (s : S) : S := eachS chS I.chs (manyS I.chs.length s)
def irqsS (I : Im) (s : S) : S := eachS iqS I.irqs (manyS I.irqs.length s)
def lanesN (I : Im) : Nat := match I.plans with
 | [] => 0
 | p :: _ => p.lanes.length
def plansS (I : Im) (s : S) : S := eachS (planS (lanesN I)) I.plans (halfS I.start (noneS I.master (halfS (lanesN I : Int) (halfS (I.plans.length : Int) s))))
def tabsS (I : Im) (s : S) : S := eachS tabS I.tabs s
end Bn
end Go.Proofs.YtmfkggngjeolcaaGreatDoor
namespace Go.Proofs.YtmfkggngjeolcaaGreatDoor
open Go.RowKit
def Rd (w : World) (p g : Nat) (zs : List Nat) (pos : Nat) (why : Int) : Prop :=
 w.heap[p]? = some (.cells #[.slice (some ⟨g, 0, none⟩) zs.length zs.length, .int .i64 pos, .int .i64 why] 191 (0, 0)) ∧ Row w g zs ∧ g ≠ p ∧ pos ≤ zs.length ∧ (∀ z ∈ zs, z < 256) ∧ zs.length ≤ 1099511627776
section
variable {w w' : World} {p g : Nat} {zs : List Nat} {pos : Nat} {why : Int}
theorem Rd.lt (h : Rd w p g zs pos why) : p < w.heap.size := (Array.getElem?_eq_some_iff.1 h.1).1
theorem Rd.cell0 (h : Rd w p g zs pos why) : w.cell? ⟨p, 0, none⟩ = some (.slice (some ⟨g, 0, none⟩) zs.length zs.length) := by
 rw [cell_of_row w p 0 _ _ _ h.1]; rfl
theorem Rd.cell1 (h : Rd w p g zs pos why) : w.cell? ⟨p, 1, none⟩ = some (.int .i64 pos) := by
 rw [cell_of_row w p 1 _ _ _ h.1]; rfl
theorem Rd.cell2 (h : Rd w p g zs pos why) : w.cell? ⟨p, 2, none⟩ = some (.int .i64 why) := by
 rw [cell_of_row w p 2 _ _ _ h.1]; rfl
theorem Rd.thawed (h : Rd w p g zs pos why) (i : Nat) : w.frozen? ⟨p, i, none⟩ = false := by
 simp [World.frozen?, h.1]
theorem Rd.keeps {S : Nat → Prop} (h : Rd w p g zs pos why) (hk : Keeps S w w') (hp : ¬ S p) (hg : ¬ S g) : Rd w' p g zs pos why :=
 ⟨(hk.block p h.lt hp).trans h.1, h.2.1.keeps hk hg, h.2.2⟩
theorem Rd.sl (h : Rd w p g zs pos why) : Sl w (.slice (some ⟨g, 0, none⟩) zs.length zs.length) zs := by
 have := h.2.1.sl h.2.2.2.2.1 0 zs.length zs.length (by omega) (Nat.le_refl _) (by have := h.2.2.2.2.2; unfold maxLen; omega)
 rwa [List.drop_zero, List.take_length] at this
theorem Rd.moved (h : Rd w p g zs pos why) (n : Nat) (hn : n ≤ zs.length) : Rd (w.setCell ⟨p, 1, none⟩ (.int .i64 (n : Int))) p g zs n why := by
 refine ⟨?_, h.2.1.keeps (Keeps.setCell w p 1 _) h.2.2.1, h.2.2.1, hn, h.2.2.2.2⟩;simp only [World.setCell, Array.getElem?_modify];rw [if_pos trivial, h.1];simp
theorem Rd.refuse (h : Rd w p g zs pos why) (e : Int) : Rd (w.setCell ⟨p, 2, none⟩ (.int .i64 e)) p g zs pos e := by
 refine ⟨?_, h.2.1.keeps (Keeps.setCell w p 2 _) h.2.2.1, h.2.2⟩;simp only [World.setCell, Array.getElem?_modify];rw [if_pos trivial, h.1];simp
end
theorem newReader_any {w : World} {u : Value} {zs : List Nat} (hs : Sl w u zs) (hl : zs.length ≤ 1099511627776) :
  Calls Tryz.prog 163 #[u] w fun e w' => ∃ p, e = .returned (.pointer (some ⟨p, 0, none⟩)) ∧ w.heap.size < p ∧ Rd w' p w.heap.size zs 0 0 ∧ Below w.heap.size w w' := by
 have HS : Hid (∀ z ∈ zs, z < 256) := hs.small;have HC : Hid (Calls Tryz.prog 99 #[u] w fun e w' => e = .returned (.slice (some ⟨w.heap.size, 0, none⟩) zs.length zs.length) ∧ Row w' w.heap.size zs ∧ Below w.heap.size w w') := clone_any hs hl;clear hs;go_enter Tryz.func163, Tryz.ntmps163
 go_wp2_with fail
 refine HC.out.mono ?_;rintro e w1 ⟨rfl, hr, hb⟩;have HR : Hid (Row w1 w.heap.size zs) := hr;have HB : Hid (Below w.heap.size w w1) := hb;clear hr hb HC;go_wp2
 go_ret
 refine ⟨_, rfl, HR.out.lt, ⟨heap_alloc_new w1 _, HR.out.below ((Below.refl _ _).alloc (Nat.le_refl _) _), Nat.ne_of_lt HR.out.lt, by omega, HS.out, hl⟩, HB.out.alloc HB.out.size _⟩
theorem rat_any {w : World} {p g : Nat} {zs : List Nat} {pos : Nat} {why : Int} (h : Rd w p g zs pos why) :
  Calls Tryz.prog 125 #[.pointer (some ⟨p, 0, none⟩)] w fun e w' => e = .returned (.int .i64 (pos : Int)) ∧ w' = w := by
 have c1 := h.cell1;clear h;go_enter Tryz.func125, Tryz.ntmps125
 go_wp2
 go_ret
 exact ⟨rfl, rfl⟩
theorem rerr_any {w : World} {p g : Nat} {zs : List Nat} {pos : Nat} {why : Int} (h : Rd w p g zs pos why) :
  Calls Tryz.prog 188 #[.pointer (some ⟨p, 0, none⟩)] w fun e w' => e = .returned (.int .i64 why) ∧ w' = w := by
 have c2 := h.cell2;clear h;go_enter Tryz.func188, Tryz.ntmps188
 go_wp2
 go_ret
 exact ⟨rfl, rfl⟩
theorem rleft_any {w : World} {p g : Nat} {zs : List Nat} {pos : Nat} {why : Int} (h : Rd w p g zs pos why) :
  Calls Tryz.prog 161 #[.pointer (some ⟨p, 0, none⟩)] w fun e w' => e = .returned (.int .i64 ((zs.length - pos : Nat) : Int)) ∧ w'.heap = w.heap ∧ Below w.heap.size w w' := by
 have c0 := h.cell0;have c1 := h.cell1;have h1 := h.2.2.2.1;have h2 := h.2.2.2.2.2;have HE : Hid (((zs.length - pos : Nat) : Int) = (zs.length : Int) - (pos : Int)) := (by omega : ((zs.length - pos : Nat) : Int) = (zs.length : Int) - (pos : Int))
 clear h;go_enter Tryz.func161, Tryz.ntmps161
 go_wp2
 first
 | (go_ret; exact ⟨by rw [HE.out]; rfl, rfl, Below.refl _ _⟩)
 | (go_region; all_goals (go_wp2; go_ret; exact ⟨by rw [HE.out]; rfl, rfl, (Below.refl _ _).drew⟩))
theorem rest_any {w : World} {p g : Nat} {zs : List Nat} {pos : Nat} {why : Int} (h : Rd w p g zs pos why) :
  Calls Tryz.prog 169 #[.pointer (some ⟨p, 0, none⟩)] w fun e w' => ∃ ao c, e = .returned (.slice ao (zs.length - pos) c) ∧ Sl w' (.slice ao (zs.length - pos) c) (zs.drop pos) ∧ c = zs.length - pos ∧ (∀ a, ao = some a → a.block = g) ∧ w'.heap = w.heap ∧ Below w.heap.size w w' := by
 have c0 := h.cell0;have c1 := h.cell1;have h1 := h.2.2.2.1;have h2 := h.2.2.2.2.2
 by_cases hc : zs.length = pos
 ·have HS : Hid (Sl w (.slice (some ⟨g, 0, none⟩) 0 0) (zs.drop pos)) := by
   have := h.sl;rw [show (Value.slice (some ⟨g, 0, none⟩) zs.length zs.length) = Value.slice (some ⟨g, 0, none⟩) zs.length pos by rw [hc]] at this;exact this.cutEnd
  clear h;subst hc;go_enter Tryz.func169, Tryz.ntmps169
  go_wp2
  go_region
  all_goals
   go_wp2
   go_ret
   exact ⟨some ⟨g, 0, none⟩, 0, by simp, by rw [Nat.sub_self]; exact HS.out, by omega, fun a e => by cases e; rfl, rfl, (Below.refl _ _).drew⟩
 ·have HS : Hid (Sl w (.slice (some ⟨g, pos, none⟩) (zs.length - pos) (zs.length - pos)) (zs.drop pos)) := by
   have := h.2.1.sl h.2.2.2.2.1 pos (zs.length - pos) (zs.length - pos) (by omega) (Nat.le_refl _) (by unfold maxLen; omega)
   rwa [List.take_of_length_le (by rw [List.length_drop]; omega)] at this
  clear h;go_enter Tryz.func169, Tryz.ntmps169
  go_wp2
  go_region
  all_goals
   go_wp2
   go_ret
   exact ⟨_, _, rfl, HS.out, rfl, fun a e => by cases e; rfl, rfl, (Below.refl _ _).drew⟩
end Go.Proofs.YtmfkggngjeolcaaGreatDoor
namespace Go.Proofs.YtmfkggngjeolcaaGreatDoor
open Go.RowKit
namespace Pl
def acc (zs : List Nat) : Nat → Nat → Nat
 | _, 0 => 0
 | k, m + 1 => zs.getD k 0 + 256 * acc zs (k + 1) m
def num (m : Nat) (zs : List Nat) : Nat := acc zs 0 m
theorem acc_lt {zs : List Nat} (h : ∀ z ∈ zs, z < 256) (k m : Nat) : acc zs k m < 256 ^ m := by
 induction m generalizing k with
 | zero => simp [acc]
 | succ m ih =>
  have h1 := mem_getD (k := k) h;have h2 := ih (k + 1)
  show zs.getD k 0 + 256 * acc zs (k + 1) m < 256 ^ (m + 1)
  rw [Nat.pow_succ];omega
theorem acc_cons (x : Nat) (zs : List Nat) (k m : Nat) : acc (x :: zs) (k + 1) m = acc zs k m := by
 induction m generalizing k with
 | zero => rfl
 | succ m ih => show (x :: zs).getD (k + 1) 0 + _ = zs.getD k 0 + _; rw [ih]; rfl
end Pl
theorem Keeps.drew {S : Nat → Prop} {w w' : World} (h : Keeps S w w') : Keeps S w w'.drew := ⟨h.os, h.tape, h.output, h.size, h.block⟩
theorem Rd.drew {w : World} {p g : Nat} {zs : List Nat} {pos : Nat} {why : Int} (h : Rd w p g zs pos why) : Rd w.drew p g zs pos why := h
theorem or_byte (s z : Nat) (hs : s < 72057594037927936) (hz : z < 256) : bits .or .u64 ((s : Int) * 256) (z : Int) = ((z + 256 * s : Nat) : Int) := by
 have h := u64_or_nat (s * 256) z (by omega) (by omega);rw [nat_join 8 (s * 256) z (by simp) hz] at h;rw [Int.natCast_mul] at h;rw [show z + 256 * s = s * 256 + z from by omega];exact h

theorem get_u8_yes {zs : List Nat} {v : Value} {w : World} (hv : Sl w v zs) (hl : 1 ≤ zs.length) :
  Calls Tryz.prog 192 #[v] w fun e w' => e = .returned (.tuple #[.int .u8 (Pl.num 1 zs : Nat), .bool true]) ∧ w' = w := by
 obtain ⟨b, o, cap, rfl, h1, h2, h3, h4⟩ := hv.pos (by omega);have HC : Hid (∀ i, i < zs.length → w.cell? ⟨b, o + i, none⟩ = some (.int .u8 (zs.getD i 0 : Nat))) := h4;have HZ : Hid (∀ z ∈ zs, z < 256) := h3;unfold maxLen at h2;clear h3 h4;go_enter Tryz.func192, Tryz.ntmps192
 go_wp2_with (go_at_call 191; refine (size_u8 _).mono ?_; rintro e w' ⟨rfl, hw⟩; have hw := hw.symm; subst hw)
 go_loop [5, 6] (fun s i => ∃ j : Nat, j ≤ 1 ∧ i = .int .i64 ((j : Int) - 1) ∧ s = .int .u64 ((Pl.acc zs j (1 - j) : Nat) : Int)) (fun _ i => (intOf i + 1).toNat)
 case atStart => exact ⟨1, by omega, rfl, rfl⟩
 case round =>
  obtain ⟨j, hj, rfl, rfl⟩ := hrel;rcases j with _ | k
  ·have HE : Hid (Pl.acc zs 0 (1 - 0) = Pl.num 1 zs) := (rfl : _ = _)
   have hb : Pl.acc zs 0 (1 - 0) < 256 ^ 1 := Pl.acc_lt HZ.out 0 1;generalize Pl.acc zs 0 (1 - 0) = s at *;have hb2 : s ≤ 255 := by simp at hb; omega
   clear hb;go_wp2
   go_ret2
   exact ⟨by rw [← HE.out]; rfl, rfl⟩
  ·have hck := HC.out k (by omega);have hz := Pl.mem_getD (k := k) HZ.out;have HA : Hid (Pl.acc zs k (1 - k) = zs.getD k 0 + 256 * Pl.acc zs (k + 1) (1 - (k + 1))) := by
    show _ = _
    rw [show 1 - k = (1 - (k + 1)) + 1 from by omega]
    rfl
   have hs0 := Pl.acc_lt HZ.out (k + 1) (1 - (k + 1));have hs : Pl.acc zs (k + 1) (1 - (k + 1)) < 72057594037927936 := Nat.lt_of_lt_of_le hs0 (Nat.le_trans (Nat.pow_le_pow_right (by decide) (show 1 - (k + 1) ≤ 7 by omega)) (by decide));clear hs0;have hor := or_byte _ _ hs hz;have HN := HA.out;generalize Pl.acc zs (k + 1) (1 - (k + 1)) = s at *;generalize zs.getD k 0 = z at *;generalize z + 256 * s = t at *;clear HN;go_wp2
   go_round
   case rel => exact ⟨k, by omega, by go_num, by rw [HA.out]⟩
   case measure => simp [intOf]
theorem get_u8_no {zs : List Nat} {v : Value} {w : World} (hv : Sl w v zs) (hl : zs.length < 1) :
  Calls Tryz.prog 192 #[v] w fun e w' => e = .returned (.tuple #[.int .u8 0, .bool false]) ∧ w' = w := by
 obtain ⟨ao, cap, rfl, _⟩ := hv;go_enter Tryz.func192, Tryz.ntmps192
 go_wp2_with (go_at_call 191; refine (size_u8 _).mono ?_; rintro e w' ⟨rfl, hw⟩; have hw := hw.symm; subst hw)
 go_ret2
 exact ⟨rfl, rfl⟩

theorem take_u8_yes {w : World} {p g : Nat} {zs : List Nat} {pos : Nat} (h : Rd w p g zs pos 0) (hl : pos + 1 ≤ zs.length) :
  Calls Tryz.prog 189 #[.pointer (some ⟨p, 0, none⟩)] w fun e w' => e = .returned (.int .u8 (Pl.num 1 (zs.drop pos) : Nat)) ∧ Rd w' p g zs (pos + 1) 0 ∧ Keeps (fun k => k = p) w w' := by
 have c2 := h.cell2;have HR : Hid (Rd w p g zs pos 0) := h;have HE : Hid (Enters Tryz.prog 191) := enters_of Tryz.func191 (by kernel_rfl) rfl;have h6 := h.2.2.2.2.2;clear h;go_enter Tryz.func189, Tryz.ntmps189
 go_wp2_with fail
 refine (rest_any HR.out).mono ?_;rintro e w1 ⟨ao, c, rfl, hs, hc, ha, hh, hb⟩;clear hc ha;have HS : Hid (Sl w1 (.slice ao (zs.length - pos) c) (zs.drop pos)) := hs;have HR1 : Hid (Rd w1 p g zs pos 0) := HR.out.keeps (Keeps.of_below (S := fun _ => False) hb) (fun h => h) (fun h => h);have HB : Hid (Below w.heap.size w w1) := hb;clear hs hb hh c2;go_wp2_with fail
 refine (get_u8_yes HS.out (by rw [List.length_drop]; omega)).mono ?_;rintro e w' ⟨rfl, hw⟩;rw [hw];clear hw w';have c1 := HR1.out.cell1;have t1 := HR1.out.thawed 1;have HN : Hid (IntKind.i64.wrap ((pos : Int) + 1) = ((pos + 1 : Nat) : Int)) := by show _ = _; rw [IntKind.wrap_i64]; omega
 go_wp2
 go_region_law (refine step_call rfl 191 #[] #[] rfl HE.out #[] (by first | (simp; done) | simp [Act.eval, Act.put]) (.int .i64 1) (size_u8 _) ?_)
 all_goals
  go_wp2
  go_ret
  refine ⟨rfl, ?_, ?_⟩
  ·rw [HN.out];exact (HR1.out.moved (pos + 1) (by omega)).drew
  ·exact (Keeps.of_below (w := w) HB.out).trans (Keeps.setCell w1 p 1 _).drew (fun i _ e => e)
theorem take_u8_no {w : World} {p g : Nat} {zs : List Nat} {pos : Nat} (h : Rd w p g zs pos 0) (hl : zs.length < pos + 1) :
  Calls Tryz.prog 189 #[.pointer (some ⟨p, 0, none⟩)] w fun e w' => e = .returned (.int .u8 0) ∧ Rd w' p g zs pos 10 ∧ Keeps (fun k => k = p) w w' := by
 have c2 := h.cell2;have HR : Hid (Rd w p g zs pos 0) := h;have h6 := h.2.2.2.2.2;have h4 := h.2.2.2.1;clear h;go_enter Tryz.func189, Tryz.ntmps189
 go_wp2_with fail
 refine (rest_any HR.out).mono ?_;rintro e w1 ⟨ao, c, rfl, hs, hc, ha, hh, hb⟩;clear hc ha;have HS : Hid (Sl w1 (.slice ao (zs.length - pos) c) (zs.drop pos)) := hs;have HR1 : Hid (Rd w1 p g zs pos 0) := HR.out.keeps (Keeps.of_below (S := fun _ => False) hb) (fun h => h) (fun h => h);have HB : Hid (Below w.heap.size w w1) := hb;clear hs hb hh c2;go_wp2_with fail
 refine (get_u8_no HS.out (by rw [List.length_drop]; omega)).mono ?_;rintro e w' ⟨rfl, hw⟩;rw [hw];clear hw w';have c2 := HR1.out.cell2;have t1 := HR1.out.thawed 2;go_wp2
 go_ret
 exact ⟨rfl, HR1.out.refuse 10, (Keeps.of_below (w := w) HB.out).trans (Keeps.setCell w1 p 2 _) (fun i _ e => e)⟩
theorem take_u8_not {w : World} {p g : Nat} {zs : List Nat} {pos : Nat} {why : Int} (h : Rd w p g zs pos why) (hw : why ≠ 0) :
  Calls Tryz.prog 189 #[.pointer (some ⟨p, 0, none⟩)] w fun e w' => e = .returned (.int .u8 0) ∧ w' = w := by
 have c2 := h.cell2;have hb : (why != 0) = true := by simpa using hw
 clear h;go_enter Tryz.func189, Tryz.ntmps189
 go_wp2
 go_ret
 exact ⟨rfl, rfl⟩

theorem ru8_yes {w : World} {p g : Nat} {zs : List Nat} {pos : Nat} (h : Rd w p g zs pos 0) (hl : pos + 1 ≤ zs.length) :
  Calls Tryz.prog 176 #[.pointer (some ⟨p, 0, none⟩)] w fun e w' => e = .returned (.int .u8 (Pl.num 1 (zs.drop pos) : Nat)) ∧ Rd w' p g zs (pos + 1) 0 ∧ Keeps (fun k => k = p) w w' := by
 have HC : Hid (Calls Tryz.prog 189 #[.pointer (some ⟨p, 0, none⟩)] w fun e w' => e = .returned (.int .u8 (Pl.num 1 (zs.drop pos) : Nat)) ∧ Rd w' p g zs (pos + 1) 0 ∧ Keeps (fun k => k = p) w w') := take_u8_yes h hl;clear h;go_enter Tryz.func176, Tryz.ntmps176
 go_wp2_with fail
 refine HC.out.mono ?_;rintro e w1 ⟨rfl, hx⟩;have HX : Hid (Rd w1 p g zs (pos + 1) 0 ∧ Keeps (fun k => k = p) w w1) := hx;clear hx HC;go_wp2
 go_ret
 exact ⟨rfl, HX.out⟩

theorem ru8_no {w : World} {p g : Nat} {zs : List Nat} {pos : Nat} (h : Rd w p g zs pos 0) (hl : zs.length < pos + 1) :
  Calls Tryz.prog 176 #[.pointer (some ⟨p, 0, none⟩)] w fun e w' => e = .returned (.int .u8 0) ∧ Rd w' p g zs pos 10 ∧ Keeps (fun k => k = p) w w' := by
 have HC : Hid (Calls Tryz.prog 189 #[.pointer (some ⟨p, 0, none⟩)] w fun e w' => e = .returned (.int .u8 0) ∧ Rd w' p g zs pos 10 ∧ Keeps (fun k => k = p) w w') := take_u8_no h hl;clear h;go_enter Tryz.func176, Tryz.ntmps176
 go_wp2_with fail
 refine HC.out.mono ?_;rintro e w1 ⟨rfl, hx⟩;have HX : Hid (Rd w1 p g zs pos 10 ∧ Keeps (fun k => k = p) w w1) := hx;clear hx HC;go_wp2
 go_ret
 exact ⟨rfl, HX.out⟩

theorem ru8_not {w : World} {p g : Nat} {zs : List Nat} {pos : Nat} {why : Int} (h : Rd w p g zs pos why) (hw : why ≠ 0) :
  Calls Tryz.prog 176 #[.pointer (some ⟨p, 0, none⟩)] w fun e w' => e = .returned (.int .u8 0) ∧ w' = w := by
 have HC : Hid (Calls Tryz.prog 189 #[.pointer (some ⟨p, 0, none⟩)] w fun e w' => e = .returned (.int .u8 0) ∧ w' = w) := take_u8_not h hw;clear h;go_enter Tryz.func176, Tryz.ntmps176
 go_wp2_with fail
 refine HC.out.mono ?_;rintro e w1 ⟨rfl, hx⟩;have HX : Hid (w1 = w) := hx;clear hx HC;go_wp2
 go_ret
 exact ⟨rfl, HX.out⟩

theorem get_u16_yes {zs : List Nat} {v : Value} {w : World} (hv : Sl w v zs) (hl : 2 ≤ zs.length) :
  Calls Tryz.prog 185 #[v] w fun e w' => e = .returned (.tuple #[.int .u16 (Pl.num 2 zs : Nat), .bool true]) ∧ w' = w := by
 obtain ⟨b, o, cap, rfl, h1, h2, h3, h4⟩ := hv.pos (by omega);have HC : Hid (∀ i, i < zs.length → w.cell? ⟨b, o + i, none⟩ = some (.int .u8 (zs.getD i 0 : Nat))) := h4;have HZ : Hid (∀ z ∈ zs, z < 256) := h3;unfold maxLen at h2;clear h3 h4;go_enter Tryz.func185, Tryz.ntmps185
 go_wp2_with (go_at_call 166; refine (size_u16 _).mono ?_; rintro e w' ⟨rfl, hw⟩; have hw := hw.symm; subst hw)
 go_loop [5, 6] (fun s i => ∃ j : Nat, j ≤ 2 ∧ i = .int .i64 ((j : Int) - 1) ∧ s = .int .u64 ((Pl.acc zs j (2 - j) : Nat) : Int)) (fun _ i => (intOf i + 1).toNat)
 case atStart => exact ⟨2, by omega, rfl, rfl⟩
 case round =>
  obtain ⟨j, hj, rfl, rfl⟩ := hrel;rcases j with _ | k
  ·have HE : Hid (Pl.acc zs 0 (2 - 0) = Pl.num 2 zs) := (rfl : _ = _)
   have hb : Pl.acc zs 0 (2 - 0) < 256 ^ 2 := Pl.acc_lt HZ.out 0 2;generalize Pl.acc zs 0 (2 - 0) = s at *;have hb2 : s ≤ 65535 := by simp at hb; omega
   clear hb;go_wp2
   go_ret2
   exact ⟨by rw [← HE.out]; rfl, rfl⟩
  ·have hck := HC.out k (by omega);have hz := Pl.mem_getD (k := k) HZ.out;have HA : Hid (Pl.acc zs k (2 - k) = zs.getD k 0 + 256 * Pl.acc zs (k + 1) (2 - (k + 1))) := by
    show _ = _
    rw [show 2 - k = (2 - (k + 1)) + 1 from by omega]
    rfl
   have hs0 := Pl.acc_lt HZ.out (k + 1) (2 - (k + 1));have hs : Pl.acc zs (k + 1) (2 - (k + 1)) < 72057594037927936 := Nat.lt_of_lt_of_le hs0 (Nat.le_trans (Nat.pow_le_pow_right (by decide) (show 2 - (k + 1) ≤ 7 by omega)) (by decide));clear hs0;have hor := or_byte _ _ hs hz;have HN := HA.out;generalize Pl.acc zs (k + 1) (2 - (k + 1)) = s at *;generalize zs.getD k 0 = z at *;generalize z + 256 * s = t at *;clear HN;go_wp2
   go_round
   case rel => exact ⟨k, by omega, by go_num, by rw [HA.out]⟩
   case measure => simp [intOf]
theorem get_u16_no {zs : List Nat} {v : Value} {w : World} (hv : Sl w v zs) (hl : zs.length < 2) :
  Calls Tryz.prog 185 #[v] w fun e w' => e = .returned (.tuple #[.int .u16 0, .bool false]) ∧ w' = w := by
 obtain ⟨ao, cap, rfl, _⟩ := hv;go_enter Tryz.func185, Tryz.ntmps185
 go_wp2_with (go_at_call 166; refine (size_u16 _).mono ?_; rintro e w' ⟨rfl, hw⟩; have hw := hw.symm; subst hw)
 go_ret2
 exact ⟨rfl, rfl⟩

theorem take_u16_yes {w : World} {p g : Nat} {zs : List Nat} {pos : Nat} (h : Rd w p g zs pos 0) (hl : pos + 2 ≤ zs.length) :
  Calls Tryz.prog 170 #[.pointer (some ⟨p, 0, none⟩)] w fun e w' => e = .returned (.int .u16 (Pl.num 2 (zs.drop pos) : Nat)) ∧ Rd w' p g zs (pos + 2) 0 ∧ Keeps (fun k => k = p) w w' := by
 have c2 := h.cell2;have HR : Hid (Rd w p g zs pos 0) := h;have HE : Hid (Enters Tryz.prog 166) := enters_of Tryz.func166 (by kernel_rfl) rfl;have h6 := h.2.2.2.2.2;clear h;go_enter Tryz.func170, Tryz.ntmps170
 go_wp2_with fail
 refine (rest_any HR.out).mono ?_;rintro e w1 ⟨ao, c, rfl, hs, hc, ha, hh, hb⟩;clear hc ha;have HS : Hid (Sl w1 (.slice ao (zs.length - pos) c) (zs.drop pos)) := hs;have HR1 : Hid (Rd w1 p g zs pos 0) := HR.out.keeps (Keeps.of_below (S := fun _ => False) hb) (fun h => h) (fun h => h);have HB : Hid (Below w.heap.size w w1) := hb;clear hs hb hh c2;go_wp2_with fail
 refine (get_u16_yes HS.out (by rw [List.length_drop]; omega)).mono ?_;rintro e w' ⟨rfl, hw⟩;rw [hw];clear hw w';have c1 := HR1.out.cell1;have t1 := HR1.out.thawed 1;have HN : Hid (IntKind.i64.wrap ((pos : Int) + 2) = ((pos + 2 : Nat) : Int)) := by show _ = _; rw [IntKind.wrap_i64]; omega
 go_wp2
 go_region_law (refine step_call rfl 166 #[] #[] rfl HE.out #[] (by first | (simp; done) | simp [Act.eval, Act.put]) (.int .i64 2) (size_u16 _) ?_)
 all_goals
  go_wp2
  go_ret
  refine ⟨rfl, ?_, ?_⟩
  ·rw [HN.out];exact (HR1.out.moved (pos + 2) (by omega)).drew
  ·exact (Keeps.of_below (w := w) HB.out).trans (Keeps.setCell w1 p 1 _).drew (fun i _ e => e)
theorem take_u16_no {w : World} {p g : Nat} {zs : List Nat} {pos : Nat} (h : Rd w p g zs pos 0) (hl : zs.length < pos + 2) :
  Calls Tryz.prog 170 #[.pointer (some ⟨p, 0, none⟩)] w fun e w' => e = .returned (.int .u16 0) ∧ Rd w' p g zs pos 10 ∧ Keeps (fun k => k = p) w w' := by
 have c2 := h.cell2;have HR : Hid (Rd w p g zs pos 0) := h;have h6 := h.2.2.2.2.2;have h4 := h.2.2.2.1;clear h;go_enter Tryz.func170, Tryz.ntmps170
 go_wp2_with fail
 refine (rest_any HR.out).mono ?_;rintro e w1 ⟨ao, c, rfl, hs, hc, ha, hh, hb⟩;clear hc ha;have HS : Hid (Sl w1 (.slice ao (zs.length - pos) c) (zs.drop pos)) := hs;have HR1 : Hid (Rd w1 p g zs pos 0) := HR.out.keeps (Keeps.of_below (S := fun _ => False) hb) (fun h => h) (fun h => h);have HB : Hid (Below w.heap.size w w1) := hb;clear hs hb hh c2;go_wp2_with fail
 refine (get_u16_no HS.out (by rw [List.length_drop]; omega)).mono ?_;rintro e w' ⟨rfl, hw⟩;rw [hw];clear hw w';have c2 := HR1.out.cell2;have t1 := HR1.out.thawed 2;go_wp2
 go_ret
 exact ⟨rfl, HR1.out.refuse 10, (Keeps.of_below (w := w) HB.out).trans (Keeps.setCell w1 p 2 _) (fun i _ e => e)⟩
theorem take_u16_not {w : World} {p g : Nat} {zs : List Nat} {pos : Nat} {why : Int} (h : Rd w p g zs pos why) (hw : why ≠ 0) :
  Calls Tryz.prog 170 #[.pointer (some ⟨p, 0, none⟩)] w fun e w' => e = .returned (.int .u16 0) ∧ w' = w := by
 have c2 := h.cell2;have hb : (why != 0) = true := by simpa using hw
 clear h;go_enter Tryz.func170, Tryz.ntmps170
 go_wp2
 go_ret
 exact ⟨rfl, rfl⟩

theorem ru16_yes {w : World} {p g : Nat} {zs : List Nat} {pos : Nat} (h : Rd w p g zs pos 0) (hl : pos + 2 ≤ zs.length) :
  Calls Tryz.prog 135 #[.pointer (some ⟨p, 0, none⟩)] w fun e w' => e = .returned (.int .u16 (Pl.num 2 (zs.drop pos) : Nat)) ∧ Rd w' p g zs (pos + 2) 0 ∧ Keeps (fun k => k = p) w w' := by
 have HC : Hid (Calls Tryz.prog 170 #[.pointer (some ⟨p, 0, none⟩)] w fun e w' => e = .returned (.int .u16 (Pl.num 2 (zs.drop pos) : Nat)) ∧ Rd w' p g zs (pos + 2) 0 ∧ Keeps (fun k => k = p) w w') := take_u16_yes h hl;clear h;go_enter Tryz.func135, Tryz.ntmps135
 go_wp2_with fail
 refine HC.out.mono ?_;rintro e w1 ⟨rfl, hx⟩;have HX : Hid (Rd w1 p g zs (pos + 2) 0 ∧ Keeps (fun k => k = p) w w1) := hx;clear hx HC;go_wp2
 go_ret
 exact ⟨rfl, HX.out⟩

theorem ru16_no {w : World} {p g : Nat} {zs : List Nat} {pos : Nat} (h : Rd w p g zs pos 0) (hl : zs.length < pos + 2) :
  Calls Tryz.prog 135 #[.pointer (some ⟨p, 0, none⟩)] w fun e w' => e = .returned (.int .u16 0) ∧ Rd w' p g zs pos 10 ∧ Keeps (fun k => k = p) w w' := by
 have HC : Hid (Calls Tryz.prog 170 #[.pointer (some ⟨p, 0, none⟩)] w fun e w' => e = .returned (.int .u16 0) ∧ Rd w' p g zs pos 10 ∧ Keeps (fun k => k = p) w w') := take_u16_no h hl;clear h;go_enter Tryz.func135, Tryz.ntmps135
 go_wp2_with fail
 refine HC.out.mono ?_;rintro e w1 ⟨rfl, hx⟩;have HX : Hid (Rd w1 p g zs pos 10 ∧ Keeps (fun k => k = p) w w1) := hx;clear hx HC;go_wp2
 go_ret
 exact ⟨rfl, HX.out⟩

theorem ru16_not {w : World} {p g : Nat} {zs : List Nat} {pos : Nat} {why : Int} (h : Rd w p g zs pos why) (hw : why ≠ 0) :
  Calls Tryz.prog 135 #[.pointer (some ⟨p, 0, none⟩)] w fun e w' => e = .returned (.int .u16 0) ∧ w' = w := by
 have HC : Hid (Calls Tryz.prog 170 #[.pointer (some ⟨p, 0, none⟩)] w fun e w' => e = .returned (.int .u16 0) ∧ w' = w) := take_u16_not h hw;clear h;go_enter Tryz.func135, Tryz.ntmps135
 go_wp2_with fail
 refine HC.out.mono ?_;rintro e w1 ⟨rfl, hx⟩;have HX : Hid (w1 = w) := hx;clear hx HC;go_wp2
 go_ret
 exact ⟨rfl, HX.out⟩

theorem get_u32_yes {zs : List Nat} {v : Value} {w : World} (hv : Sl w v zs) (hl : 4 ≤ zs.length) :
  Calls Tryz.prog 186 #[v] w fun e w' => e = .returned (.tuple #[.int .u32 (Pl.num 4 zs : Nat), .bool true]) ∧ w' = w := by
 obtain ⟨b, o, cap, rfl, h1, h2, h3, h4⟩ := hv.pos (by omega);have HC : Hid (∀ i, i < zs.length → w.cell? ⟨b, o + i, none⟩ = some (.int .u8 (zs.getD i 0 : Nat))) := h4;have HZ : Hid (∀ z ∈ zs, z < 256) := h3;unfold maxLen at h2;clear h3 h4;go_enter Tryz.func186, Tryz.ntmps186
 go_wp2_with (go_at_call 167; refine (size_u32 _).mono ?_; rintro e w' ⟨rfl, hw⟩; have hw := hw.symm; subst hw)
 go_loop [5, 6] (fun s i => ∃ j : Nat, j ≤ 4 ∧ i = .int .i64 ((j : Int) - 1) ∧ s = .int .u64 ((Pl.acc zs j (4 - j) : Nat) : Int)) (fun _ i => (intOf i + 1).toNat)
 case atStart => exact ⟨4, by omega, rfl, rfl⟩
 case round =>
  obtain ⟨j, hj, rfl, rfl⟩ := hrel;rcases j with _ | k
  ·have HE : Hid (Pl.acc zs 0 (4 - 0) = Pl.num 4 zs) := (rfl : _ = _)
   have hb : Pl.acc zs 0 (4 - 0) < 256 ^ 4 := Pl.acc_lt HZ.out 0 4;generalize Pl.acc zs 0 (4 - 0) = s at *;have hb2 : s ≤ 4294967295 := by simp at hb; omega
   clear hb;go_wp2
   go_ret2
   exact ⟨by rw [← HE.out]; rfl, rfl⟩
  ·have hck := HC.out k (by omega);have hz := Pl.mem_getD (k := k) HZ.out;have HA : Hid (Pl.acc zs k (4 - k) = zs.getD k 0 + 256 * Pl.acc zs (k + 1) (4 - (k + 1))) := by
    show _ = _
    rw [show 4 - k = (4 - (k + 1)) + 1 from by omega]
    rfl
   have hs0 := Pl.acc_lt HZ.out (k + 1) (4 - (k + 1));have hs : Pl.acc zs (k + 1) (4 - (k + 1)) < 72057594037927936 := Nat.lt_of_lt_of_le hs0 (Nat.le_trans (Nat.pow_le_pow_right (by decide) (show 4 - (k + 1) ≤ 7 by omega)) (by decide));clear hs0;have hor := or_byte _ _ hs hz;have HN := HA.out;generalize Pl.acc zs (k + 1) (4 - (k + 1)) = s at *;generalize zs.getD k 0 = z at *;generalize z + 256 * s = t at *;clear HN;go_wp2
   go_round
   case rel => exact ⟨k, by omega, by go_num, by rw [HA.out]⟩
   case measure => simp [intOf]
theorem get_u32_no {zs : List Nat} {v : Value} {w : World} (hv : Sl w v zs) (hl : zs.length < 4) :
  Calls Tryz.prog 186 #[v] w fun e w' => e = .returned (.tuple #[.int .u32 0, .bool false]) ∧ w' = w := by
 obtain ⟨ao, cap, rfl, _⟩ := hv;go_enter Tryz.func186, Tryz.ntmps186
 go_wp2_with (go_at_call 167; refine (size_u32 _).mono ?_; rintro e w' ⟨rfl, hw⟩; have hw := hw.symm; subst hw)
 go_ret2
 exact ⟨rfl, rfl⟩

theorem take_u32_yes {w : World} {p g : Nat} {zs : List Nat} {pos : Nat} (h : Rd w p g zs pos 0) (hl : pos + 4 ≤ zs.length) :
  Calls Tryz.prog 171 #[.pointer (some ⟨p, 0, none⟩)] w fun e w' => e = .returned (.int .u32 (Pl.num 4 (zs.drop pos) : Nat)) ∧ Rd w' p g zs (pos + 4) 0 ∧ Keeps (fun k => k = p) w w' := by
 have c2 := h.cell2;have HR : Hid (Rd w p g zs pos 0) := h;have HE : Hid (Enters Tryz.prog 167) := enters_of Tryz.func167 (by kernel_rfl) rfl;have h6 := h.2.2.2.2.2;clear h;go_enter Tryz.func171, Tryz.ntmps171
 go_wp2_with fail
 refine (rest_any HR.out).mono ?_;rintro e w1 ⟨ao, c, rfl, hs, hc, ha, hh, hb⟩;clear hc ha;have HS : Hid (Sl w1 (.slice ao (zs.length - pos) c) (zs.drop pos)) := hs;have HR1 : Hid (Rd w1 p g zs pos 0) := HR.out.keeps (Keeps.of_below (S := fun _ => False) hb) (fun h => h) (fun h => h);have HB : Hid (Below w.heap.size w w1) := hb;clear hs hb hh c2;go_wp2_with fail
 refine (get_u32_yes HS.out (by rw [List.length_drop]; omega)).mono ?_;rintro e w' ⟨rfl, hw⟩;rw [hw];clear hw w';have c1 := HR1.out.cell1;have t1 := HR1.out.thawed 1;have HN : Hid (IntKind.i64.wrap ((pos : Int) + 4) = ((pos + 4 : Nat) : Int)) := by show _ = _; rw [IntKind.wrap_i64]; omega
 go_wp2
 go_region_law (refine step_call rfl 167 #[] #[] rfl HE.out #[] (by first | (simp; done) | simp [Act.eval, Act.put]) (.int .i64 4) (size_u32 _) ?_)
 all_goals
  go_wp2
  go_ret
  refine ⟨rfl, ?_, ?_⟩
  ·rw [HN.out];exact (HR1.out.moved (pos + 4) (by omega)).drew
  ·exact (Keeps.of_below (w := w) HB.out).trans (Keeps.setCell w1 p 1 _).drew (fun i _ e => e)
theorem take_u32_no {w : World} {p g : Nat} {zs : List Nat} {pos : Nat} (h : Rd w p g zs pos 0) (hl : zs.length < pos + 4) :
  Calls Tryz.prog 171 #[.pointer (some ⟨p, 0, none⟩)] w fun e w' => e = .returned (.int .u32 0) ∧ Rd w' p g zs pos 10 ∧ Keeps (fun k => k = p) w w' := by
 have c2 := h.cell2;have HR : Hid (Rd w p g zs pos 0) := h;have h6 := h.2.2.2.2.2;have h4 := h.2.2.2.1;clear h;go_enter Tryz.func171, Tryz.ntmps171
 go_wp2_with fail
 refine (rest_any HR.out).mono ?_;rintro e w1 ⟨ao, c, rfl, hs, hc, ha, hh, hb⟩;clear hc ha;have HS : Hid (Sl w1 (.slice ao (zs.length - pos) c) (zs.drop pos)) := hs;have HR1 : Hid (Rd w1 p g zs pos 0) := HR.out.keeps (Keeps.of_below (S := fun _ => False) hb) (fun h => h) (fun h => h);have HB : Hid (Below w.heap.size w w1) := hb;clear hs hb hh c2;go_wp2_with fail
 refine (get_u32_no HS.out (by rw [List.length_drop]; omega)).mono ?_;rintro e w' ⟨rfl, hw⟩;rw [hw];clear hw w';have c2 := HR1.out.cell2;have t1 := HR1.out.thawed 2;go_wp2
 go_ret
 exact ⟨rfl, HR1.out.refuse 10, (Keeps.of_below (w := w) HB.out).trans (Keeps.setCell w1 p 2 _) (fun i _ e => e)⟩
theorem take_u32_not {w : World} {p g : Nat} {zs : List Nat} {pos : Nat} {why : Int} (h : Rd w p g zs pos why) (hw : why ≠ 0) :
  Calls Tryz.prog 171 #[.pointer (some ⟨p, 0, none⟩)] w fun e w' => e = .returned (.int .u32 0) ∧ w' = w := by
 have c2 := h.cell2;have hb : (why != 0) = true := by simpa using hw
 clear h;go_enter Tryz.func171, Tryz.ntmps171
 go_wp2
 go_ret
 exact ⟨rfl, rfl⟩

theorem ru32_yes {w : World} {p g : Nat} {zs : List Nat} {pos : Nat} (h : Rd w p g zs pos 0) (hl : pos + 4 ≤ zs.length) :
  Calls Tryz.prog 136 #[.pointer (some ⟨p, 0, none⟩)] w fun e w' => e = .returned (.int .u32 (Pl.num 4 (zs.drop pos) : Nat)) ∧ Rd w' p g zs (pos + 4) 0 ∧ Keeps (fun k => k = p) w w' := by
 have HC : Hid (Calls Tryz.prog 171 #[.pointer (some ⟨p, 0, none⟩)] w fun e w' => e = .returned (.int .u32 (Pl.num 4 (zs.drop pos) : Nat)) ∧ Rd w' p g zs (pos + 4) 0 ∧ Keeps (fun k => k = p) w w') := take_u32_yes h hl;clear h;go_enter Tryz.func136, Tryz.ntmps136
 go_wp2_with fail
 refine HC.out.mono ?_;rintro e w1 ⟨rfl, hx⟩;have HX : Hid (Rd w1 p g zs (pos + 4) 0 ∧ Keeps (fun k => k = p) w w1) := hx;clear hx HC;go_wp2
 go_ret
 exact ⟨rfl, HX.out⟩

theorem ru32_no {w : World} {p g : Nat} {zs : List Nat} {pos : Nat} (h : Rd w p g zs pos 0) (hl : zs.length < pos + 4) :
  Calls Tryz.prog 136 #[.pointer (some ⟨p, 0, none⟩)] w fun e w' => e = .returned (.int .u32 0) ∧ Rd w' p g zs pos 10 ∧ Keeps (fun k => k = p) w w' := by
 have HC : Hid (Calls Tryz.prog 171 #[.pointer (some ⟨p, 0, none⟩)] w fun e w' => e = .returned (.int .u32 0) ∧ Rd w' p g zs pos 10 ∧ Keeps (fun k => k = p) w w') := take_u32_no h hl;clear h;go_enter Tryz.func136, Tryz.ntmps136
 go_wp2_with fail
 refine HC.out.mono ?_;rintro e w1 ⟨rfl, hx⟩;have HX : Hid (Rd w1 p g zs pos 10 ∧ Keeps (fun k => k = p) w w1) := hx;clear hx HC;go_wp2
 go_ret
 exact ⟨rfl, HX.out⟩

theorem ru32_not {w : World} {p g : Nat} {zs : List Nat} {pos : Nat} {why : Int} (h : Rd w p g zs pos why) (hw : why ≠ 0) :
  Calls Tryz.prog 136 #[.pointer (some ⟨p, 0, none⟩)] w fun e w' => e = .returned (.int .u32 0) ∧ w' = w := by
 have HC : Hid (Calls Tryz.prog 171 #[.pointer (some ⟨p, 0, none⟩)] w fun e w' => e = .returned (.int .u32 0) ∧ w' = w) := take_u32_not h hw;clear h;go_enter Tryz.func136, Tryz.ntmps136
 go_wp2_with fail
 refine HC.out.mono ?_;rintro e w1 ⟨rfl, hx⟩;have HX : Hid (w1 = w) := hx;clear hx HC;go_wp2
 go_ret
 exact ⟨rfl, HX.out⟩

theorem get_u64_yes {zs : List Nat} {v : Value} {w : World} (hv : Sl w v zs) (hl : 8 ≤ zs.length) :
  Calls Tryz.prog 187 #[v] w fun e w' => e = .returned (.tuple #[.int .u64 (Pl.num 8 zs : Nat), .bool true]) ∧ w' = w := by
 obtain ⟨b, o, cap, rfl, h1, h2, h3, h4⟩ := hv.pos (by omega);have HC : Hid (∀ i, i < zs.length → w.cell? ⟨b, o + i, none⟩ = some (.int .u8 (zs.getD i 0 : Nat))) := h4;have HZ : Hid (∀ z ∈ zs, z < 256) := h3;unfold maxLen at h2;clear h3 h4;go_enter Tryz.func187, Tryz.ntmps187
 go_wp2_with (go_at_call 168; refine (size_u64 _).mono ?_; rintro e w' ⟨rfl, hw⟩; have hw := hw.symm; subst hw)
 go_loop [5, 6] (fun s i => ∃ j : Nat, j ≤ 8 ∧ i = .int .i64 ((j : Int) - 1) ∧ s = .int .u64 ((Pl.acc zs j (8 - j) : Nat) : Int)) (fun _ i => (intOf i + 1).toNat)
 case atStart => exact ⟨8, by omega, rfl, rfl⟩
 case round =>
  obtain ⟨j, hj, rfl, rfl⟩ := hrel;rcases j with _ | k
  ·have HE : Hid (Pl.acc zs 0 (8 - 0) = Pl.num 8 zs) := (rfl : _ = _)
   have hb : Pl.acc zs 0 (8 - 0) < 256 ^ 8 := Pl.acc_lt HZ.out 0 8;generalize Pl.acc zs 0 (8 - 0) = s at *;have hb2 : s ≤ 18446744073709551615 := by simp at hb; omega
   clear hb;go_wp2
   go_ret2
   exact ⟨by rw [← HE.out]; rfl, rfl⟩
  ·have hck := HC.out k (by omega);have hz := Pl.mem_getD (k := k) HZ.out;have HA : Hid (Pl.acc zs k (8 - k) = zs.getD k 0 + 256 * Pl.acc zs (k + 1) (8 - (k + 1))) := by
    show _ = _
    rw [show 8 - k = (8 - (k + 1)) + 1 from by omega]
    rfl
   have hs0 := Pl.acc_lt HZ.out (k + 1) (8 - (k + 1));have hs : Pl.acc zs (k + 1) (8 - (k + 1)) < 72057594037927936 := Nat.lt_of_lt_of_le hs0 (Nat.le_trans (Nat.pow_le_pow_right (by decide) (show 8 - (k + 1) ≤ 7 by omega)) (by decide));clear hs0;have hor := or_byte _ _ hs hz;have HN := HA.out;generalize Pl.acc zs (k + 1) (8 - (k + 1)) = s at *;generalize zs.getD k 0 = z at *;generalize z + 256 * s = t at *;clear HN;go_wp2
   go_round
   case rel => exact ⟨k, by omega, by go_num, by rw [HA.out]⟩
   case measure => simp [intOf]
theorem get_u64_no {zs : List Nat} {v : Value} {w : World} (hv : Sl w v zs) (hl : zs.length < 8) :
  Calls Tryz.prog 187 #[v] w fun e w' => e = .returned (.tuple #[.int .u64 0, .bool false]) ∧ w' = w := by
 obtain ⟨ao, cap, rfl, _⟩ := hv;go_enter Tryz.func187, Tryz.ntmps187
 go_wp2_with (go_at_call 168; refine (size_u64 _).mono ?_; rintro e w' ⟨rfl, hw⟩; have hw := hw.symm; subst hw)
 go_ret2
 exact ⟨rfl, rfl⟩

theorem take_u64_yes {w : World} {p g : Nat} {zs : List Nat} {pos : Nat} (h : Rd w p g zs pos 0) (hl : pos + 8 ≤ zs.length) :
  Calls Tryz.prog 172 #[.pointer (some ⟨p, 0, none⟩)] w fun e w' => e = .returned (.int .u64 (Pl.num 8 (zs.drop pos) : Nat)) ∧ Rd w' p g zs (pos + 8) 0 ∧ Keeps (fun k => k = p) w w' := by
 have c2 := h.cell2;have HR : Hid (Rd w p g zs pos 0) := h;have HE : Hid (Enters Tryz.prog 168) := enters_of Tryz.func168 (by kernel_rfl) rfl;have h6 := h.2.2.2.2.2;clear h;go_enter Tryz.func172, Tryz.ntmps172
 go_wp2_with fail
 refine (rest_any HR.out).mono ?_;rintro e w1 ⟨ao, c, rfl, hs, hc, ha, hh, hb⟩;clear hc ha;have HS : Hid (Sl w1 (.slice ao (zs.length - pos) c) (zs.drop pos)) := hs;have HR1 : Hid (Rd w1 p g zs pos 0) := HR.out.keeps (Keeps.of_below (S := fun _ => False) hb) (fun h => h) (fun h => h);have HB : Hid (Below w.heap.size w w1) := hb;clear hs hb hh c2;go_wp2_with fail
 refine (get_u64_yes HS.out (by rw [List.length_drop]; omega)).mono ?_;rintro e w' ⟨rfl, hw⟩;rw [hw];clear hw w';have c1 := HR1.out.cell1;have t1 := HR1.out.thawed 1;have HN : Hid (IntKind.i64.wrap ((pos : Int) + 8) = ((pos + 8 : Nat) : Int)) := by show _ = _; rw [IntKind.wrap_i64]; omega
 go_wp2
 go_region_law (refine step_call rfl 168 #[] #[] rfl HE.out #[] (by first | (simp; done) | simp [Act.eval, Act.put]) (.int .i64 8) (size_u64 _) ?_)
 all_goals
  go_wp2
  go_ret
  refine ⟨rfl, ?_, ?_⟩
  ·rw [HN.out];exact (HR1.out.moved (pos + 8) (by omega)).drew
  ·exact (Keeps.of_below (w := w) HB.out).trans (Keeps.setCell w1 p 1 _).drew (fun i _ e => e)
theorem take_u64_no {w : World} {p g : Nat} {zs : List Nat} {pos : Nat} (h : Rd w p g zs pos 0) (hl : zs.length < pos + 8) :
  Calls Tryz.prog 172 #[.pointer (some ⟨p, 0, none⟩)] w fun e w' => e = .returned (.int .u64 0) ∧ Rd w' p g zs pos 10 ∧ Keeps (fun k => k = p) w w' := by
 have c2 := h.cell2;have HR : Hid (Rd w p g zs pos 0) := h;have h6 := h.2.2.2.2.2;have h4 := h.2.2.2.1;clear h;go_enter Tryz.func172, Tryz.ntmps172
 go_wp2_with fail
 refine (rest_any HR.out).mono ?_;rintro e w1 ⟨ao, c, rfl, hs, hc, ha, hh, hb⟩;clear hc ha;have HS : Hid (Sl w1 (.slice ao (zs.length - pos) c) (zs.drop pos)) := hs;have HR1 : Hid (Rd w1 p g zs pos 0) := HR.out.keeps (Keeps.of_below (S := fun _ => False) hb) (fun h => h) (fun h => h);have HB : Hid (Below w.heap.size w w1) := hb;clear hs hb hh c2;go_wp2_with fail
 refine (get_u64_no HS.out (by rw [List.length_drop]; omega)).mono ?_;rintro e w' ⟨rfl, hw⟩;rw [hw];clear hw w';have c2 := HR1.out.cell2;have t1 := HR1.out.thawed 2;go_wp2
 go_ret
 exact ⟨rfl, HR1.out.refuse 10, (Keeps.of_below (w := w) HB.out).trans (Keeps.setCell w1 p 2 _) (fun i _ e => e)⟩
theorem take_u64_not {w : World} {p g : Nat} {zs : List Nat} {pos : Nat} {why : Int} (h : Rd w p g zs pos why) (hw : why ≠ 0) :
  Calls Tryz.prog 172 #[.pointer (some ⟨p, 0, none⟩)] w fun e w' => e = .returned (.int .u64 0) ∧ w' = w := by
 have c2 := h.cell2;have hb : (why != 0) = true := by simpa using hw
 clear h;go_enter Tryz.func172, Tryz.ntmps172
 go_wp2
 go_ret
 exact ⟨rfl, rfl⟩

theorem ru64_yes {w : World} {p g : Nat} {zs : List Nat} {pos : Nat} (h : Rd w p g zs pos 0) (hl : pos + 8 ≤ zs.length) :
  Calls Tryz.prog 137 #[.pointer (some ⟨p, 0, none⟩)] w fun e w' => e = .returned (.int .u64 (Pl.num 8 (zs.drop pos) : Nat)) ∧ Rd w' p g zs (pos + 8) 0 ∧ Keeps (fun k => k = p) w w' := by
 have HC : Hid (Calls Tryz.prog 172 #[.pointer (some ⟨p, 0, none⟩)] w fun e w' => e = .returned (.int .u64 (Pl.num 8 (zs.drop pos) : Nat)) ∧ Rd w' p g zs (pos + 8) 0 ∧ Keeps (fun k => k = p) w w') := take_u64_yes h hl;clear h;go_enter Tryz.func137, Tryz.ntmps137
 go_wp2_with fail
 refine HC.out.mono ?_;rintro e w1 ⟨rfl, hx⟩;have HX : Hid (Rd w1 p g zs (pos + 8) 0 ∧ Keeps (fun k => k = p) w w1) := hx;clear hx HC;go_wp2
 go_ret
 exact ⟨rfl, HX.out⟩

theorem ru64_no {w : World} {p g : Nat} {zs : List Nat} {pos : Nat} (h : Rd w p g zs pos 0) (hl : zs.length < pos + 8) :
  Calls Tryz.prog 137 #[.pointer (some ⟨p, 0, none⟩)] w fun e w' => e = .returned (.int .u64 0) ∧ Rd w' p g zs pos 10 ∧ Keeps (fun k => k = p) w w' := by
 have HC : Hid (Calls Tryz.prog 172 #[.pointer (some ⟨p, 0, none⟩)] w fun e w' => e = .returned (.int .u64 0) ∧ Rd w' p g zs pos 10 ∧ Keeps (fun k => k = p) w w') := take_u64_no h hl;clear h;go_enter Tryz.func137, Tryz.ntmps137
 go_wp2_with fail
 refine HC.out.mono ?_;rintro e w1 ⟨rfl, hx⟩;have HX : Hid (Rd w1 p g zs pos 10 ∧ Keeps (fun k => k = p) w w1) := hx;clear hx HC;go_wp2
 go_ret
 exact ⟨rfl, HX.out⟩

theorem ru64_not {w : World} {p g : Nat} {zs : List Nat} {pos : Nat} {why : Int} (h : Rd w p g zs pos why) (hw : why ≠ 0) :
  Calls Tryz.prog 137 #[.pointer (some ⟨p, 0, none⟩)] w fun e w' => e = .returned (.int .u64 0) ∧ w' = w := by
 have HC : Hid (Calls Tryz.prog 172 #[.pointer (some ⟨p, 0, none⟩)] w fun e w' => e = .returned (.int .u64 0) ∧ w' = w) := take_u64_not h hw;clear h;go_enter Tryz.func137, Tryz.ntmps137
 go_wp2_with fail
 refine HC.out.mono ?_;rintro e w1 ⟨rfl, hx⟩;have HX : Hid (w1 = w) := hx;clear hx HC;go_wp2
 go_ret
 exact ⟨rfl, HX.out⟩

end Go.Proofs.YtmfkggngjeolcaaGreatDoor
