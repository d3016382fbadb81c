import Derived.Test.YtmfkggngjeolcaaGreatDoorPk02
import Derived.Deep.RegionLaw
import Derived.Shelf.Abstract
set_option maxHeartbeats 1000000
namespace Go.Proofs.YtmfkggngjeolcaaGreatDoor
open Go.RowKit
theorem mod256 (r : Nat) : ((r % 256 : Nat) : Int) = (r : Int) % 256 := by omega
theorem div256 (r : Nat) : ((r / 256 : Nat) : Int) = (r : Int) / 256 := by omega
theorem row_one (w : World) (r : Nat) : Row (w.alloc (.cells #[.int .u8 ((r : Int) % 256)] 5)) w.heap.size [r % 256] := by
 rw [Row, show (w.alloc (.cells #[.int .u8 ((r : Int) % 256)] 5)).heap[w.heap.size]? = _ from heap_alloc_new w _];rw [← mod256]
 rfl
theorem sl_one (w : World) (r : Nat) : Sl (w.alloc (.cells #[.int .u8 ((r : Int) % 256)] 5)) (.slice (some ⟨w.heap.size, 0, none⟩) 1 1) [r % 256] :=
 (row_one w r).sl (by simp; omega) 0 1 1 (by simp) (by omega) (by simp [maxLen])
theorem At.refl (w : World) (v : Value) : At w v v := .inl rfl
theorem At.step {w w1 : World} {v v1 v2 : Value} (h : At w v v1) (hs : w.heap.size ≤ w1.heap.size) (h2 : v2.ownBlock = v1.ownBlock ∨ v2.ownBlock = some w1.heap.size) : At w v v2 := by
 rcases h2 with h2 | h2
 ·rcases h with h | ⟨k, hk, hle⟩
  ·exact .inl (h2.trans h)
  ·exact .inr ⟨k, h2.trans hk, hle⟩
 ·exact .inr ⟨_, h2, hs⟩
theorem At.foot {w : World} {v v1 : Value} (h : At w v v1) : ∀ k, k < w.heap.size → v1.ownBlock = some k → v.ownBlock = some k := by
 intro k hk e;rcases h with h | ⟨j, hj, hle⟩
 ·rw [← h, e]
 ·rw [hj] at e
  cases e
  omega

theorem greatest_u8 (w : World) : Calls Tryz.prog 196 #[] w fun e w' => e = .returned (.int .u8 255) ∧ w' = w := by
 go_enter Tryz.func196, Tryz.ntmps196
 go_wp2
 go_ret
 exact ⟨congrArg (fun z => Ending.returned (.int .u8 z)) (by decide), rfl⟩
theorem size_u8 (w : World) : Calls Tryz.prog 191 #[] w fun e w' => e = .returned (.int .i64 1) ∧ w' = w := by
 go_enter Tryz.func191, Tryz.ntmps191
 go_wp2_with (go_at_call 196; refine (greatest_u8 _).mono ?_; rintro e w' ⟨rfl, rfl⟩)
 go_loop [1, 2] (fun n r => (n = .int .i64 0 ∧ r = .int .u64 255) ∨ (n = .int .i64 1 ∧ r = .int .u64 0)) (fun n _ => 1 - (intOf n).toNat)
 case atStart => exact .inl ⟨rfl, rfl⟩
 case round =>
  rcases hrel with ⟨rfl, rfl⟩ | ⟨rfl, rfl⟩
  ·go_wp2
   go_round
   case rel => exact .inr (⟨rfl, rfl⟩)
   case measure => simp [intOf]
  ·go_wp2
   go_ret
   exact ⟨rfl, rfl⟩
theorem extend_u8 {v : Value} {xs : List Nat} {n base : Nat} {w : World} (ho : Own w base v xs) (hn : n ≤ 255) (hl : xs.length ≤ 549755813888) (hb : base ≤ w.heap.size) :
  Calls Tryz.prog 181 #[v, .int .u8 n] w fun e w' => ∃ v', e = .returned v' ∧ Own w' base v' (xs ++ Pl.le 1 n) ∧ Keeps (fun k => v.ownBlock = some k) w w' ∧ At w v v' := by
 have := hn;have HO0 : Hid (Own w base v (xs ++ Pl.le 0 n)) := by rw [Pl.le, List.append_nil]; exact ho
 clear ho;go_enter Tryz.func181, Tryz.ntmps181
 go_wp2_with (go_at_call 191; refine (size_u8 _).mono ?_; rintro e w' ⟨rfl, hw⟩; have hw := hw.symm; subst hw)
 go_loopw [0, 5, 9] (fun b r i wr => ∃ k : Nat, k ≤ 1 ∧ i = .int .i64 (k : Int) ∧ r = .int .u64 ((Pl.shr k n : Nat) : Int) ∧ Hid (Own wr base b (xs ++ Pl.le k n)) ∧ Hid (Keeps (fun k => v.ownBlock = some k) w wr) ∧ Hid (At w v b)) (fun _ _ i _ => 1 - (intOf i).toNat)
 case atStart => exact ⟨0, by omega, rfl, rfl, HO0, Keeps.refl _ _, At.refl _ _⟩
 case round =>
  obtain ⟨k, hk, rfl, rfl, HO, HK, HA⟩ := hrel;clear HO0;have HS : Hid (Pl.shr (k + 1) n = Pl.shr k n / 256) := (rfl : _ = _)
  have HL : Hid (Pl.le (k + 1) n = Pl.le k n ++ [Pl.shr k n % 256]) := Pl.le_snoc k n;have HLen : Hid ((xs ++ Pl.le k n).length = xs.length + k) := by show _ = _; rw [List.length_append, Pl.le_length]
  by_cases hlt : k < 1
  ·generalize Pl.shr k n = r at *;have HSl : Hid (Sl (wr.alloc (.cells #[.int .u8 ((r : Int) % 256)] 5)) (.slice (some ⟨wr.heap.size, 0, none⟩) 1 1) [r % 256]) := sl_one wr r;have HOA : Hid (Own (wr.alloc (.cells #[.int .u8 ((r : Int) % 256)] 5)) base u0 (xs ++ Pl.le k n)) := HO.out.below ((Below.refl _ _).alloc (Nat.le_refl _) _);have HBase : Hid (base ≤ wr.heap.size) := Nat.le_trans hb HK.out.size;go_wp2_with (at_builtin; refine wpList_append_sl (v := u0) (.tmp 11) (.tmp 14) (by rfl) rfl rfl HOA.out rfl HSl.out (by rw [HLen.out]; simp only [List.length_cons, List.length_nil]; omega) (by simp; exact Nat.le_succ_of_le HBase.out) ?_; intro v2 w2 h2 g2 l2; have HO2 : Hid (Own w2 base v2 (xs ++ Pl.le k n ++ [r % 256])) := h2; have HG2 : Hid ((wr.alloc (.cells #[.int .u8 ((r : Int) % 256)] 5)).grownBy w2 u0.ownBlock) := g2; have HL2 : Hid (v2.ownBlock = u0.ownBlock ∨ v2.ownBlock = some (wr.alloc (.cells #[.int .u8 ((r : Int) % 256)] 5)).heap.size) := l2; clear h2 g2 l2)
   go_roundw
   case rel =>
    have hk1 : Keeps (fun k => v.ownBlock = some k) w (wr.alloc (.cells #[.int .u8 ((r : Int) % 256)] 5)) := HK.out.trans (Keeps.alloc (S := fun _ => False) wr _) (fun _ _ h => h.elim);refine ⟨k + 1, by omega, by go_num, by rw [HS.out, div256], ?_, hk1.trans (Keeps.of_grown HG2.out) (fun j hj e => HA.out.foot j hj e), HA.out.step hk1.size HL2.out⟩;have h := HO2.out;rw [List.append_assoc, ← HL.out] at h;exact h
   case measure => simp [intOf]; omega
  ·have HE : Hid (k = 1) := (by omega : k = 1)
   go_wp2
   go_ret
   have h := HO.out;rw [HE.out] at h;exact ⟨_, rfl, h, HK.out, HA.out⟩

theorem lay_u8 {w : World} {p n base : Nat} {v : Value} {zs : List Nat} (h : Wr w p v zs 0 base) (hn : n ≤ 255) (hl : zs.length ≤ 549755813888) (hb : base ≤ w.heap.size) :
  Calls Tryz.prog 164 #[.pointer (some ⟨p, 0, none⟩), .int .u8 n] w fun e w' => e = .returned (.tuple #[]) ∧ ∃ v', Wr w' p v' (zs ++ Pl.le 1 n) 0 base ∧ Keeps (Foot p v) w w' ∧ At w v v' := by
 have c0 := h.cell0;have c1 := h.cell1;have HW : Hid (Wr w p v zs 0 base) := h;have HC : Hid (Calls Tryz.prog 181 #[v, .int .u8 n] w fun e w' => ∃ v', e = .returned v' ∧ Own w' base v' (zs ++ Pl.le 1 n) ∧ Keeps (fun k => v.ownBlock = some k) w w' ∧ At w v v') := extend_u8 h.2.1 hn hl hb;clear h;go_enter Tryz.func164, Tryz.ntmps164
 go_wp2_with fail
 refine HC.out.mono ?_;rintro e w1 ⟨v1, rfl, ho, hk, ha⟩;have hp1 : w1.heap[p]? = some (.cells #[v, .int .i64 0] 122 (0, 0)) := (hk.block p HW.out.lt HW.out.2.2.1).trans HW.out.1;have hc1 : w1.cell? ⟨p, 0, none⟩ = some v := by rw [cell_of_row w1 p 0 _ _ _ hp1]; rfl
 have ht1 : w1.frozen? ⟨p, 0, none⟩ = false := by simp [World.frozen?, hp1]
 have HO : Hid (Own w1 base v1 (zs ++ Pl.le 1 n)) := ho;have HK : Hid (Keeps (fun k => v.ownBlock = some k) w w1) := hk;have HA : Hid (At w v v1) := ha;obtain ⟨ao1, m1, cap1, hv1⟩ : ∃ a m c, v1 = .slice a m c := by
  rcases ho.2 with ⟨e, h0⟩ | ⟨g, c, _, e, _⟩
  ·exact ⟨_, _, _, e⟩
  ·exact ⟨_, _, _, e⟩
 subst hv1;have HP : Hid (w1.heap[p]? = some (.cells #[v, .int .i64 0] 122 (0, 0))) := hp1;clear hp1 ho hk ha HC c0 c1;go_wp2
 go_end0
 refine ⟨rfl, _, Wr.store HP.out HO.out ?_ ?_, (HK.out.mono (fun i _ e => Or.inr e)).trans (Keeps.setCell w1 p 0 _) (fun i _ e => .inl e), HA.out⟩
 ·intro e;exact HW.out.2.2.1 (HA.out.foot p HW.out.lt e)
 ·intro z hz;rcases List.mem_append.1 hz with h | h
  ·exact HW.out.2.2.2 z h
  ·exact Pl.le_small _ _ z h
theorem put_u8 {w : World} {p n base : Nat} {v : Value} {zs : List Nat} (h : Wr w p v zs 0 base) (hn : n ≤ 255) (hl : zs.length ≤ 549755813888) (hb : base ≤ w.heap.size) :
  Calls Tryz.prog 128 #[.pointer (some ⟨p, 0, none⟩), .int .u8 n] w fun e w' => e = .returned (.tuple #[]) ∧ ∃ v', Wr w' p v' (zs ++ Pl.le 1 n) 0 base ∧ Keeps (Foot p v) w w' ∧ At w v v' := by
 have HC : Hid (Calls Tryz.prog 164 #[.pointer (some ⟨p, 0, none⟩), .int .u8 n] w fun e w' => e = .returned (.tuple #[]) ∧ ∃ v', Wr w' p v' (zs ++ Pl.le 1 n) 0 base ∧ Keeps (Foot p v) w w' ∧ At w v v') := lay_u8 h hn hl hb;clear h;go_enter Tryz.func128, Tryz.ntmps128
 go_wp2_with fail
 refine HC.out.mono ?_;rintro e w1 ⟨rfl, hx⟩;have HX : Hid (∃ v', Wr w1 p v' (zs ++ Pl.le 1 n) 0 base ∧ Keeps (Foot p v) w w1 ∧ At w v v') := hx;clear hx HC;go_wp2
 go_end0
 exact ⟨rfl, HX.out⟩
theorem greatest_u16 (w : World) : Calls Tryz.prog 183 #[] w fun e w' => e = .returned (.int .u16 65535) ∧ w' = w := by
 go_enter Tryz.func183, Tryz.ntmps183
 go_wp2
 go_ret
 exact ⟨congrArg (fun z => Ending.returned (.int .u16 z)) (by decide), rfl⟩
theorem size_u16 (w : World) : Calls Tryz.prog 166 #[] w fun e w' => e = .returned (.int .i64 2) ∧ w' = w := by
 go_enter Tryz.func166, Tryz.ntmps166
 go_wp2_with (go_at_call 183; refine (greatest_u16 _).mono ?_; rintro e w' ⟨rfl, rfl⟩)
 go_loop [1, 2] (fun n r => (n = .int .i64 0 ∧ r = .int .u64 65535) ∨ (n = .int .i64 1 ∧ r = .int .u64 255) ∨ (n = .int .i64 2 ∧ r = .int .u64 0)) (fun n _ => 2 - (intOf n).toNat)
 case atStart => exact .inl ⟨rfl, rfl⟩
 case round =>
  rcases hrel with ⟨rfl, rfl⟩ | ⟨rfl, rfl⟩ | ⟨rfl, rfl⟩
  ·go_wp2
   go_round
   case rel => exact .inr (.inl ⟨rfl, rfl⟩)
   case measure => simp [intOf]
  ·go_wp2
   go_round
   case rel => exact .inr (.inr (⟨rfl, rfl⟩))
   case measure => simp [intOf]
  ·go_wp2
   go_ret
   exact ⟨rfl, rfl⟩
theorem extend_u16 {v : Value} {xs : List Nat} {n base : Nat} {w : World} (ho : Own w base v xs) (hn : n ≤ 65535) (hl : xs.length ≤ 549755813888) (hb : base ≤ w.heap.size) :
  Calls Tryz.prog 130 #[v, .int .u16 n] w fun e w' => ∃ v', e = .returned v' ∧ Own w' base v' (xs ++ Pl.le 2 n) ∧ Keeps (fun k => v.ownBlock = some k) w w' ∧ At w v v' := by
 have := hn;have HO0 : Hid (Own w base v (xs ++ Pl.le 0 n)) := by rw [Pl.le, List.append_nil]; exact ho
 clear ho;go_enter Tryz.func130, Tryz.ntmps130
 go_wp2_with (go_at_call 166; refine (size_u16 _).mono ?_; rintro e w' ⟨rfl, hw⟩; have hw := hw.symm; subst hw)
 go_loopw [0, 5, 9] (fun b r i wr => ∃ k : Nat, k ≤ 2 ∧ i = .int .i64 (k : Int) ∧ r = .int .u64 ((Pl.shr k n : Nat) : Int) ∧ Hid (Own wr base b (xs ++ Pl.le k n)) ∧ Hid (Keeps (fun k => v.ownBlock = some k) w wr) ∧ Hid (At w v b)) (fun _ _ i _ => 2 - (intOf i).toNat)
 case atStart => exact ⟨0, by omega, rfl, rfl, HO0, Keeps.refl _ _, At.refl _ _⟩
 case round =>
  obtain ⟨k, hk, rfl, rfl, HO, HK, HA⟩ := hrel;clear HO0;have HS : Hid (Pl.shr (k + 1) n = Pl.shr k n / 256) := (rfl : _ = _)
  have HL : Hid (Pl.le (k + 1) n = Pl.le k n ++ [Pl.shr k n % 256]) := Pl.le_snoc k n;have HLen : Hid ((xs ++ Pl.le k n).length = xs.length + k) := by show _ = _; rw [List.length_append, Pl.le_length]
  by_cases hlt : k < 2
  ·generalize Pl.shr k n = r at *;have HSl : Hid (Sl (wr.alloc (.cells #[.int .u8 ((r : Int) % 256)] 5)) (.slice (some ⟨wr.heap.size, 0, none⟩) 1 1) [r % 256]) := sl_one wr r;have HOA : Hid (Own (wr.alloc (.cells #[.int .u8 ((r : Int) % 256)] 5)) base u0 (xs ++ Pl.le k n)) := HO.out.below ((Below.refl _ _).alloc (Nat.le_refl _) _);have HBase : Hid (base ≤ wr.heap.size) := Nat.le_trans hb HK.out.size;go_wp2_with (at_builtin; refine wpList_append_sl (v := u0) (.tmp 11) (.tmp 14) (by rfl) rfl rfl HOA.out rfl HSl.out (by rw [HLen.out]; simp only [List.length_cons, List.length_nil]; omega) (by simp; exact Nat.le_succ_of_le HBase.out) ?_; intro v2 w2 h2 g2 l2; have HO2 : Hid (Own w2 base v2 (xs ++ Pl.le k n ++ [r % 256])) := h2; have HG2 : Hid ((wr.alloc (.cells #[.int .u8 ((r : Int) % 256)] 5)).grownBy w2 u0.ownBlock) := g2; have HL2 : Hid (v2.ownBlock = u0.ownBlock ∨ v2.ownBlock = some (wr.alloc (.cells #[.int .u8 ((r : Int) % 256)] 5)).heap.size) := l2; clear h2 g2 l2)
   go_roundw
   case rel =>
    have hk1 : Keeps (fun k => v.ownBlock = some k) w (wr.alloc (.cells #[.int .u8 ((r : Int) % 256)] 5)) := HK.out.trans (Keeps.alloc (S := fun _ => False) wr _) (fun _ _ h => h.elim);refine ⟨k + 1, by omega, by go_num, by rw [HS.out, div256], ?_, hk1.trans (Keeps.of_grown HG2.out) (fun j hj e => HA.out.foot j hj e), HA.out.step hk1.size HL2.out⟩;have h := HO2.out;rw [List.append_assoc, ← HL.out] at h;exact h
   case measure => simp [intOf]; omega
  ·have HE : Hid (k = 2) := (by omega : k = 2)
   go_wp2
   go_ret
   have h := HO.out;rw [HE.out] at h;exact ⟨_, rfl, h, HK.out, HA.out⟩

theorem lay_u16 {w : World} {p n base : Nat} {v : Value} {zs : List Nat} (h : Wr w p v zs 0 base) (hn : n ≤ 65535) (hl : zs.length ≤ 549755813888) (hb : base ≤ w.heap.size) :
  Calls Tryz.prog 100 #[.pointer (some ⟨p, 0, none⟩), .int .u16 n] w fun e w' => e = .returned (.tuple #[]) ∧ ∃ v', Wr w' p v' (zs ++ Pl.le 2 n) 0 base ∧ Keeps (Foot p v) w w' ∧ At w v v' := by
 have c0 := h.cell0;have c1 := h.cell1;have HW : Hid (Wr w p v zs 0 base) := h;have HC : Hid (Calls Tryz.prog 130 #[v, .int .u16 n] w fun e w' => ∃ v', e = .returned v' ∧ Own w' base v' (zs ++ Pl.le 2 n) ∧ Keeps (fun k => v.ownBlock = some k) w w' ∧ At w v v') := extend_u16 h.2.1 hn hl hb;clear h;go_enter Tryz.func100, Tryz.ntmps100
 go_wp2_with fail
 refine HC.out.mono ?_;rintro e w1 ⟨v1, rfl, ho, hk, ha⟩;have hp1 : w1.heap[p]? = some (.cells #[v, .int .i64 0] 122 (0, 0)) := (hk.block p HW.out.lt HW.out.2.2.1).trans HW.out.1;have hc1 : w1.cell? ⟨p, 0, none⟩ = some v := by rw [cell_of_row w1 p 0 _ _ _ hp1]; rfl
 have ht1 : w1.frozen? ⟨p, 0, none⟩ = false := by simp [World.frozen?, hp1]
 have HO : Hid (Own w1 base v1 (zs ++ Pl.le 2 n)) := ho;have HK : Hid (Keeps (fun k => v.ownBlock = some k) w w1) := hk;have HA : Hid (At w v v1) := ha;obtain ⟨ao1, m1, cap1, hv1⟩ : ∃ a m c, v1 = .slice a m c := by
  rcases ho.2 with ⟨e, h0⟩ | ⟨g, c, _, e, _⟩
  ·exact ⟨_, _, _, e⟩
  ·exact ⟨_, _, _, e⟩
 subst hv1;have HP : Hid (w1.heap[p]? = some (.cells #[v, .int .i64 0] 122 (0, 0))) := hp1;clear hp1 ho hk ha HC c0 c1;go_wp2
 go_end0
 refine ⟨rfl, _, Wr.store HP.out HO.out ?_ ?_, (HK.out.mono (fun i _ e => Or.inr e)).trans (Keeps.setCell w1 p 0 _) (fun i _ e => .inl e), HA.out⟩
 ·intro e;exact HW.out.2.2.1 (HA.out.foot p HW.out.lt e)
 ·intro z hz;rcases List.mem_append.1 hz with h | h
  ·exact HW.out.2.2.2 z h
  ·exact Pl.le_small _ _ z h
theorem put_u16 {w : World} {p n base : Nat} {v : Value} {zs : List Nat} (h : Wr w p v zs 0 base) (hn : n ≤ 65535) (hl : zs.length ≤ 549755813888) (hb : base ≤ w.heap.size) :
  Calls Tryz.prog 60 #[.pointer (some ⟨p, 0, none⟩), .int .u16 n] w fun e w' => e = .returned (.tuple #[]) ∧ ∃ v', Wr w' p v' (zs ++ Pl.le 2 n) 0 base ∧ Keeps (Foot p v) w w' ∧ At w v v' := by
 have HC : Hid (Calls Tryz.prog 100 #[.pointer (some ⟨p, 0, none⟩), .int .u16 n] w fun e w' => e = .returned (.tuple #[]) ∧ ∃ v', Wr w' p v' (zs ++ Pl.le 2 n) 0 base ∧ Keeps (Foot p v) w w' ∧ At w v v') := lay_u16 h hn hl hb;clear h;go_enter Tryz.func60, Tryz.ntmps60
 go_wp2_with fail
 refine HC.out.mono ?_;rintro e w1 ⟨rfl, hx⟩;have HX : Hid (∃ v', Wr w1 p v' (zs ++ Pl.le 2 n) 0 base ∧ Keeps (Foot p v) w w1 ∧ At w v v') := hx;clear hx HC;go_wp2
 go_end0
 exact ⟨rfl, HX.out⟩
theorem greatest_u32 (w : World) : Calls Tryz.prog 184 #[] w fun e w' => e = .returned (.int .u32 4294967295) ∧ w' = w := by
 go_enter Tryz.func184, Tryz.ntmps184
 go_wp2
 go_ret
 exact ⟨congrArg (fun z => Ending.returned (.int .u32 z)) (by decide), rfl⟩
theorem size_u32 (w : World) : Calls Tryz.prog 167 #[] w fun e w' => e = .returned (.int .i64 4) ∧ w' = w := by
 go_enter Tryz.func167, Tryz.ntmps167
 go_wp2_with (go_at_call 184; refine (greatest_u32 _).mono ?_; rintro e w' ⟨rfl, rfl⟩)
 go_loop [1, 2] (fun n r => (n = .int .i64 0 ∧ r = .int .u64 4294967295) ∨ (n = .int .i64 1 ∧ r = .int .u64 16777215) ∨ (n = .int .i64 2 ∧ r = .int .u64 65535) ∨ (n = .int .i64 3 ∧ r = .int .u64 255) ∨ (n = .int .i64 4 ∧ r = .int .u64 0)) (fun n _ => 4 - (intOf n).toNat)
 case atStart => exact .inl ⟨rfl, rfl⟩
 case round =>
  rcases hrel with ⟨rfl, rfl⟩ | ⟨rfl, rfl⟩ | ⟨rfl, rfl⟩ | ⟨rfl, rfl⟩ | ⟨rfl, rfl⟩
  ·go_wp2
   go_round
   case rel => exact .inr (.inl ⟨rfl, rfl⟩)
   case measure => simp [intOf]
  ·go_wp2
   go_round
   case rel => exact .inr (.inr (.inl ⟨rfl, rfl⟩))
   case measure => simp [intOf]
  ·go_wp2
   go_round
   case rel => exact .inr (.inr (.inr (.inl ⟨rfl, rfl⟩)))
   case measure => simp [intOf]
  ·go_wp2
   go_round
   case rel => exact .inr (.inr (.inr (.inr (⟨rfl, rfl⟩))))
   case measure => simp [intOf]
  ·go_wp2
   go_ret
   exact ⟨rfl, rfl⟩
theorem extend_u32 {v : Value} {xs : List Nat} {n base : Nat} {w : World} (ho : Own w base v xs) (hn : n ≤ 4294967295) (hl : xs.length ≤ 549755813888) (hb : base ≤ w.heap.size) :
  Calls Tryz.prog 131 #[v, .int .u32 n] w fun e w' => ∃ v', e = .returned v' ∧ Own w' base v' (xs ++ Pl.le 4 n) ∧ Keeps (fun k => v.ownBlock = some k) w w' ∧ At w v v' := by
 have := hn;have HO0 : Hid (Own w base v (xs ++ Pl.le 0 n)) := by rw [Pl.le, List.append_nil]; exact ho
 clear ho;go_enter Tryz.func131, Tryz.ntmps131
 go_wp2_with (go_at_call 167; refine (size_u32 _).mono ?_; rintro e w' ⟨rfl, hw⟩; have hw := hw.symm; subst hw)
 go_loopw [0, 5, 9] (fun b r i wr => ∃ k : Nat, k ≤ 4 ∧ i = .int .i64 (k : Int) ∧ r = .int .u64 ((Pl.shr k n : Nat) : Int) ∧ Hid (Own wr base b (xs ++ Pl.le k n)) ∧ Hid (Keeps (fun k => v.ownBlock = some k) w wr) ∧ Hid (At w v b)) (fun _ _ i _ => 4 - (intOf i).toNat)
 case atStart => exact ⟨0, by omega, rfl, rfl, HO0, Keeps.refl _ _, At.refl _ _⟩
 case round =>
  obtain ⟨k, hk, rfl, rfl, HO, HK, HA⟩ := hrel;clear HO0;have HS : Hid (Pl.shr (k + 1) n = Pl.shr k n / 256) := (rfl : _ = _)
  have HL : Hid (Pl.le (k + 1) n = Pl.le k n ++ [Pl.shr k n % 256]) := Pl.le_snoc k n;have HLen : Hid ((xs ++ Pl.le k n).length = xs.length + k) := by show _ = _; rw [List.length_append, Pl.le_length]
  by_cases hlt : k < 4
  ·generalize Pl.shr k n = r at *;have HSl : Hid (Sl (wr.alloc (.cells #[.int .u8 ((r : Int) % 256)] 5)) (.slice (some ⟨wr.heap.size, 0, none⟩) 1 1) [r % 256]) := sl_one wr r;have HOA : Hid (Own (wr.alloc (.cells #[.int .u8 ((r : Int) % 256)] 5)) base u0 (xs ++ Pl.le k n)) := HO.out.below ((Below.refl _ _).alloc (Nat.le_refl _) _);have HBase : Hid (base ≤ wr.heap.size) := Nat.le_trans hb HK.out.size;go_wp2_with (at_builtin; refine wpList_append_sl (v := u0) (.tmp 11) (.tmp 14) (by rfl) rfl rfl HOA.out rfl HSl.out (by rw [HLen.out]; simp only [List.length_cons, List.length_nil]; omega) (by simp; exact Nat.le_succ_of_le HBase.out) ?_; intro v2 w2 h2 g2 l2; have HO2 : Hid (Own w2 base v2 (xs ++ Pl.le k n ++ [r % 256])) := h2; have HG2 : Hid ((wr.alloc (.cells #[.int .u8 ((r : Int) % 256)] 5)).grownBy w2 u0.ownBlock) := g2; have HL2 : Hid (v2.ownBlock = u0.ownBlock ∨ v2.ownBlock = some (wr.alloc (.cells #[.int .u8 ((r : Int) % 256)] 5)).heap.size) := l2; clear h2 g2 l2)
   go_roundw
   case rel =>
    have hk1 : Keeps (fun k => v.ownBlock = some k) w (wr.alloc (.cells #[.int .u8 ((r : Int) % 256)] 5)) := HK.out.trans (Keeps.alloc (S := fun _ => False) wr _) (fun _ _ h => h.elim);refine ⟨k + 1, by omega, by go_num, by rw [HS.out, div256], ?_, hk1.trans (Keeps.of_grown HG2.out) (fun j hj e => HA.out.foot j hj e), HA.out.step hk1.size HL2.out⟩;have h := HO2.out;rw [List.append_assoc, ← HL.out] at h;exact h
   case measure => simp [intOf]; omega
  ·have HE : Hid (k = 4) := (by omega : k = 4)
   go_wp2
   go_ret
   have h := HO.out;rw [HE.out] at h;exact ⟨_, rfl, h, HK.out, HA.out⟩

theorem lay_u32 {w : World} {p n base : Nat} {v : Value} {zs : List Nat} (h : Wr w p v zs 0 base) (hn : n ≤ 4294967295) (hl : zs.length ≤ 549755813888) (hb : base ≤ w.heap.size) :
  Calls Tryz.prog 101 #[.pointer (some ⟨p, 0, none⟩), .int .u32 n] w fun e w' => e = .returned (.tuple #[]) ∧ ∃ v', Wr w' p v' (zs ++ Pl.le 4 n) 0 base ∧ Keeps (Foot p v) w w' ∧ At w v v' := by
 have c0 := h.cell0;have c1 := h.cell1;have HW : Hid (Wr w p v zs 0 base) := h;have HC : Hid (Calls Tryz.prog 131 #[v, .int .u32 n] w fun e w' => ∃ v', e = .returned v' ∧ Own w' base v' (zs ++ Pl.le 4 n) ∧ Keeps (fun k => v.ownBlock = some k) w w' ∧ At w v v') := extend_u32 h.2.1 hn hl hb;clear h;go_enter Tryz.func101, Tryz.ntmps101
 go_wp2_with fail
 refine HC.out.mono ?_;rintro e w1 ⟨v1, rfl, ho, hk, ha⟩;have hp1 : w1.heap[p]? = some (.cells #[v, .int .i64 0] 122 (0, 0)) := (hk.block p HW.out.lt HW.out.2.2.1).trans HW.out.1;have hc1 : w1.cell? ⟨p, 0, none⟩ = some v := by rw [cell_of_row w1 p 0 _ _ _ hp1]; rfl
 have ht1 : w1.frozen? ⟨p, 0, none⟩ = false := by simp [World.frozen?, hp1]
 have HO : Hid (Own w1 base v1 (zs ++ Pl.le 4 n)) := ho;have HK : Hid (Keeps (fun k => v.ownBlock = some k) w w1) := hk;have HA : Hid (At w v v1) := ha;obtain ⟨ao1, m1, cap1, hv1⟩ : ∃ a m c, v1 = .slice a m c := by
  rcases ho.2 with ⟨e, h0⟩ | ⟨g, c, _, e, _⟩
  ·exact ⟨_, _, _, e⟩
  ·exact ⟨_, _, _, e⟩
 subst hv1;have HP : Hid (w1.heap[p]? = some (.cells #[v, .int .i64 0] 122 (0, 0))) := hp1;clear hp1 ho hk ha HC c0 c1;go_wp2
 go_end0
 refine ⟨rfl, _, Wr.store HP.out HO.out ?_ ?_, (HK.out.mono (fun i _ e => Or.inr e)).trans (Keeps.setCell w1 p 0 _) (fun i _ e => .inl e), HA.out⟩
 ·intro e;exact HW.out.2.2.1 (HA.out.foot p HW.out.lt e)
 ·intro z hz;rcases List.mem_append.1 hz with h | h
  ·exact HW.out.2.2.2 z h
  ·exact Pl.le_small _ _ z h
theorem put_u32 {w : World} {p n base : Nat} {v : Value} {zs : List Nat} (h : Wr w p v zs 0 base) (hn : n ≤ 4294967295) (hl : zs.length ≤ 549755813888) (hb : base ≤ w.heap.size) :
  Calls Tryz.prog 61 #[.pointer (some ⟨p, 0, none⟩), .int .u32 n] w fun e w' => e = .returned (.tuple #[]) ∧ ∃ v', Wr w' p v' (zs ++ Pl.le 4 n) 0 base ∧ Keeps (Foot p v) w w' ∧ At w v v' := by
 have HC : Hid (Calls Tryz.prog 101 #[.pointer (some ⟨p, 0, none⟩), .int .u32 n] w fun e w' => e = .returned (.tuple #[]) ∧ ∃ v', Wr w' p v' (zs ++ Pl.le 4 n) 0 base ∧ Keeps (Foot p v) w w' ∧ At w v v') := lay_u32 h hn hl hb;clear h;go_enter Tryz.func61, Tryz.ntmps61
 go_wp2_with fail
 refine HC.out.mono ?_;rintro e w1 ⟨rfl, hx⟩;have HX : Hid (∃ v', Wr w1 p v' (zs ++ Pl.le 4 n) 0 base ∧ Keeps (Foot p v) w w1 ∧ At w v v') := hx;clear hx HC;go_wp2
 go_end0
 exact ⟨rfl, HX.out⟩
theorem greatest_u64 (w : World) : Calls Tryz.prog 182 #[] w fun e w' => e = .returned (.int .u64 18446744073709551615) ∧ w' = w := by
 go_enter Tryz.func182, Tryz.ntmps182
 go_wp2
 go_ret
 exact ⟨congrArg (fun z => Ending.returned (.int .u64 z)) (by decide), rfl⟩
theorem size_u64 (w : World) : Calls Tryz.prog 168 #[] w fun e w' => e = .returned (.int .i64 8) ∧ w' = w := by
 go_enter Tryz.func168, Tryz.ntmps168
 go_wp2_with (go_at_call 182; refine (greatest_u64 _).mono ?_; rintro e w' ⟨rfl, rfl⟩)
 go_loop [1, 2] (fun n r => (n = .int .i64 0 ∧ r = .int .u64 18446744073709551615) ∨ (n = .int .i64 1 ∧ r = .int .u64 72057594037927935) ∨ (n = .int .i64 2 ∧ r = .int .u64 281474976710655) ∨ (n = .int .i64 3 ∧ r = .int .u64 1099511627775) ∨ (n = .int .i64 4 ∧ r = .int .u64 4294967295) ∨ (n = .int .i64 5 ∧ r = .int .u64 16777215) ∨ (n = .int .i64 6 ∧ r = .int .u64 65535) ∨ (n = .int .i64 7 ∧ r = .int .u64 255) ∨ (n = .int .i64 8 ∧ r = .int .u64 0)) (fun n _ => 8 - (intOf n).toNat)
 case atStart => exact .inl ⟨rfl, rfl⟩
 case round =>
  rcases hrel with ⟨rfl, rfl⟩ | ⟨rfl, rfl⟩ | ⟨rfl, rfl⟩ | ⟨rfl, rfl⟩ | ⟨rfl, rfl⟩ | ⟨rfl, rfl⟩ | ⟨rfl, rfl⟩ | ⟨rfl, rfl⟩ | ⟨rfl, rfl⟩
  ·go_wp2
   go_round
   case rel => exact .inr (.inl ⟨rfl, rfl⟩)
   case measure => simp [intOf]
  ·go_wp2
   go_round
   case rel => exact .inr (.inr (.inl ⟨rfl, rfl⟩))
   case measure => simp [intOf]
  ·go_wp2
   go_round
   case rel => exact .inr (.inr (.inr (.inl ⟨rfl, rfl⟩)))
   case measure => simp [intOf]
  ·go_wp2
   go_round
   case rel => exact .inr (.inr (.inr (.inr (.inl ⟨rfl, rfl⟩))))
   case measure => simp [intOf]
  ·go_wp2
   go_round
   case rel => exact .inr (.inr (.inr (.inr (.inr (.inl ⟨rfl, rfl⟩)))))
   case measure => simp [intOf]
  ·go_wp2
   go_round
   case rel => exact .inr (.inr (.inr (.inr (.inr (.inr (.inl ⟨rfl, rfl⟩))))))
   case measure => simp [intOf]
  ·go_wp2
   go_round
   case rel => exact .inr (.inr (.inr (.inr (.inr (.inr (.inr (.inl ⟨rfl, rfl⟩)))))))
   case measure => simp [intOf]
  ·go_wp2
   go_round
   case rel => exact .inr (.inr (.inr (.inr (.inr (.inr (.inr (.inr (⟨rfl, rfl⟩))))))))
   case measure => simp [intOf]
  ·go_wp2
   go_ret
   exact ⟨rfl, rfl⟩
theorem extend_u64 {v : Value} {xs : List Nat} {n base : Nat} {w : World} (ho : Own w base v xs) (hn : n ≤ 18446744073709551615) (hl : xs.length ≤ 549755813888) (hb : base ≤ w.heap.size) :
  Calls Tryz.prog 132 #[v, .int .u64 n] w fun e w' => ∃ v', e = .returned v' ∧ Own w' base v' (xs ++ Pl.le 8 n) ∧ Keeps (fun k => v.ownBlock = some k) w w' ∧ At w v v' := by
 have := hn;have HO0 : Hid (Own w base v (xs ++ Pl.le 0 n)) := by rw [Pl.le, List.append_nil]; exact ho
 clear ho;go_enter Tryz.func132, Tryz.ntmps132
 go_wp2_with (go_at_call 168; refine (size_u64 _).mono ?_; rintro e w' ⟨rfl, hw⟩; have hw := hw.symm; subst hw)
 go_loopw [0, 5, 8] (fun b r i wr => ∃ k : Nat, k ≤ 8 ∧ i = .int .i64 (k : Int) ∧ r = .int .u64 ((Pl.shr k n : Nat) : Int) ∧ Hid (Own wr base b (xs ++ Pl.le k n)) ∧ Hid (Keeps (fun k => v.ownBlock = some k) w wr) ∧ Hid (At w v b)) (fun _ _ i _ => 8 - (intOf i).toNat)
 case atStart => exact ⟨0, by omega, rfl, rfl, HO0, Keeps.refl _ _, At.refl _ _⟩
 case round =>
  obtain ⟨k, hk, rfl, rfl, HO, HK, HA⟩ := hrel;clear HO0;have HS : Hid (Pl.shr (k + 1) n = Pl.shr k n / 256) := (rfl : _ = _)
  have HL : Hid (Pl.le (k + 1) n = Pl.le k n ++ [Pl.shr k n % 256]) := Pl.le_snoc k n;have HLen : Hid ((xs ++ Pl.le k n).length = xs.length + k) := by show _ = _; rw [List.length_append, Pl.le_length]
  by_cases hlt : k < 8
  ·generalize Pl.shr k n = r at *;have HSl : Hid (Sl (wr.alloc (.cells #[.int .u8 ((r : Int) % 256)] 5)) (.slice (some ⟨wr.heap.size, 0, none⟩) 1 1) [r % 256]) := sl_one wr r;have HOA : Hid (Own (wr.alloc (.cells #[.int .u8 ((r : Int) % 256)] 5)) base u0 (xs ++ Pl.le k n)) := HO.out.below ((Below.refl _ _).alloc (Nat.le_refl _) _);have HBase : Hid (base ≤ wr.heap.size) := Nat.le_trans hb HK.out.size;go_wp2_with (at_builtin; refine wpList_append_sl (v := u0) (.tmp 10) (.tmp 13) (by rfl) rfl rfl HOA.out rfl HSl.out (by rw [HLen.out]; simp only [List.length_cons, List.length_nil]; omega) (by simp; exact Nat.le_succ_of_le HBase.out) ?_; intro v2 w2 h2 g2 l2; have HO2 : Hid (Own w2 base v2 (xs ++ Pl.le k n ++ [r % 256])) := h2; have HG2 : Hid ((wr.alloc (.cells #[.int .u8 ((r : Int) % 256)] 5)).grownBy w2 u0.ownBlock) := g2; have HL2 : Hid (v2.ownBlock = u0.ownBlock ∨ v2.ownBlock = some (wr.alloc (.cells #[.int .u8 ((r : Int) % 256)] 5)).heap.size) := l2; clear h2 g2 l2)
   go_roundw
   case rel =>
    have hk1 : Keeps (fun k => v.ownBlock = some k) w (wr.alloc (.cells #[.int .u8 ((r : Int) % 256)] 5)) := HK.out.trans (Keeps.alloc (S := fun _ => False) wr _) (fun _ _ h => h.elim);refine ⟨k + 1, by omega, by go_num, by rw [HS.out, div256], ?_, hk1.trans (Keeps.of_grown HG2.out) (fun j hj e => HA.out.foot j hj e), HA.out.step hk1.size HL2.out⟩;have h := HO2.out;rw [List.append_assoc, ← HL.out] at h;exact h
   case measure => simp [intOf]; omega
  ·have HE : Hid (k = 8) := (by omega : k = 8)
   go_wp2
   go_ret
   have h := HO.out;rw [HE.out] at h;exact ⟨_, rfl, h, HK.out, HA.out⟩

theorem lay_u64 {w : World} {p n base : Nat} {v : Value} {zs : List Nat} (h : Wr w p v zs 0 base) (hn : n ≤ 18446744073709551615) (hl : zs.length ≤ 549755813888) (hb : base ≤ w.heap.size) :
  Calls Tryz.prog 102 #[.pointer (some ⟨p, 0, none⟩), .int .u64 n] w fun e w' => e = .returned (.tuple #[]) ∧ ∃ v', Wr w' p v' (zs ++ Pl.le 8 n) 0 base ∧ Keeps (Foot p v) w w' ∧ At w v v' := by
 have c0 := h.cell0;have c1 := h.cell1;have HW : Hid (Wr w p v zs 0 base) := h;have HC : Hid (Calls Tryz.prog 132 #[v, .int .u64 n] w fun e w' => ∃ v', e = .returned v' ∧ Own w' base v' (zs ++ Pl.le 8 n) ∧ Keeps (fun k => v.ownBlock = some k) w w' ∧ At w v v') := extend_u64 h.2.1 hn hl hb;clear h;go_enter Tryz.func102, Tryz.ntmps102
 go_wp2_with fail
 refine HC.out.mono ?_;rintro e w1 ⟨v1, rfl, ho, hk, ha⟩;have hp1 : w1.heap[p]? = some (.cells #[v, .int .i64 0] 122 (0, 0)) := (hk.block p HW.out.lt HW.out.2.2.1).trans HW.out.1;have hc1 : w1.cell? ⟨p, 0, none⟩ = some v := by rw [cell_of_row w1 p 0 _ _ _ hp1]; rfl
 have ht1 : w1.frozen? ⟨p, 0, none⟩ = false := by simp [World.frozen?, hp1]
 have HO : Hid (Own w1 base v1 (zs ++ Pl.le 8 n)) := ho;have HK : Hid (Keeps (fun k => v.ownBlock = some k) w w1) := hk;have HA : Hid (At w v v1) := ha;obtain ⟨ao1, m1, cap1, hv1⟩ : ∃ a m c, v1 = .slice a m c := by
  rcases ho.2 with ⟨e, h0⟩ | ⟨g, c, _, e, _⟩
  ·exact ⟨_, _, _, e⟩
  ·exact ⟨_, _, _, e⟩
 subst hv1;have HP : Hid (w1.heap[p]? = some (.cells #[v, .int .i64 0] 122 (0, 0))) := hp1;clear hp1 ho hk ha HC c0 c1;go_wp2
 go_end0
 refine ⟨rfl, _, Wr.store HP.out HO.out ?_ ?_, (HK.out.mono (fun i _ e => Or.inr e)).trans (Keeps.setCell w1 p 0 _) (fun i _ e => .inl e), HA.out⟩
 ·intro e;exact HW.out.2.2.1 (HA.out.foot p HW.out.lt e)
 ·intro z hz;rcases List.mem_append.1 hz with h | h
  ·exact HW.out.2.2.2 z h
  ·exact Pl.le_small _ _ z h
theorem put_u64 {w : World} {p n base : Nat} {v : Value} {zs : List Nat} (h : Wr w p v zs 0 base) (hn : n ≤ 18446744073709551615) (hl : zs.length ≤ 549755813888) (hb : base ≤ w.heap.size) :
  Calls Tryz.prog 62 #[.pointer (some ⟨p, 0, none⟩), .int .u64 n] w fun e w' => e = .returned (.tuple #[]) ∧ ∃ v', Wr w' p v' (zs ++ Pl.le 8 n) 0 base ∧ Keeps (Foot p v) w w' ∧ At w v v' := by
 have HC : Hid (Calls Tryz.prog 102 #[.pointer (some ⟨p, 0, none⟩), .int .u64 n] w fun e w' => e = .returned (.tuple #[]) ∧ ∃ v', Wr w' p v' (zs ++ Pl.le 8 n) 0 base ∧ Keeps (Foot p v) w w' ∧ At w v v') := lay_u64 h hn hl hb;clear h;go_enter Tryz.func62, Tryz.ntmps62
 go_wp2_with fail
 refine HC.out.mono ?_;rintro e w1 ⟨rfl, hx⟩;have HX : Hid (∃ v', Wr w1 p v' (zs ++ Pl.le 8 n) 0 base ∧ Keeps (Foot p v) w w1 ∧ At w v v') := hx;clear hx HC;go_wp2
 go_end0
 exact ⟨rfl, HX.out⟩
end Go.Proofs.YtmfkggngjeolcaaGreatDoor
namespace Go.Proofs.YtmfkggngjeolcaaGreatDoor
open Go.RowKit
end Go.Proofs.YtmfkggngjeolcaaGreatDoor
namespace Go.Proofs.YtmfkggngjeolcaaGreatDoor
open Go.RowKit
def gapN (n al : Nat) : Nat := (al - n % al) % al
theorem gap_any (n al : Nat) (w : World) (h1 : 1 ≤ al) (h2 : al ≤ 4096) (hn : n ≤ 4611686018427387904) :
  Calls Tryz.prog 194 #[.int .i64 n, .int .i64 al] w fun e w' => e = .returned (.int .i64 (gapN n al : Nat)) ∧ w' = w := by
 have := hn;have m0 : 0 ≤ (n : Int) % al := Int.emod_nonneg _ (by omega);have m1 : (n : Int) % al < al := Int.emod_lt_of_pos _ (by omega);have e1 : ((gapN n al : Nat) : Int) = ((al : Int) - (n : Int) % al) % al := by
  unfold gapN;have hlt : n % al < al := Nat.mod_lt _ h1;rw [Int.natCast_emod, Int.natCast_sub (Nat.le_of_lt hlt), Int.natCast_emod]
 have HE : Hid (((gapN n al : Nat) : Int) = ((al : Int) - (n : Int) % al) % al) := e1;clear e1;go_enter Tryz.func194, Tryz.ntmps194
 go_wp2
 go_ret
 exact ⟨by rw [HE.out]; rfl, rfl⟩
theorem isAlign_yes (al : Int) (w : World) (h1 : 1 ≤ al) (h2 : al ≤ 4096) :
  Calls Tryz.prog 193 #[.int .i64 al] w fun e w' => e = .returned (.bool true) ∧ w' = w := by
 have := h1; have := h2;go_enter Tryz.func193, Tryz.ntmps193
 go_wp2
 go_ret
 exact ⟨rfl, rfl⟩
theorem step_call {P : Program} {ops : Array Oper} {o : Oper} {a : Act} {w : World} {K : Act → World → Prop} {Q : Exit → Act → World → Prop} {E : Prop} (hw : Region.wanted o (yielded ops a.tmps) = true)
  (f : FuncId) (xs : Array Operand) (ats : Array TypeId) (ho : o.op = .call { callee := .value (.func f), args := xs, argTypes := ats }) (he : Enters P f) (args : Array Value) (hargs : #[] ++ xs.map a.eval ++ #[] = args) (v : Value)
  (hc : Calls P f args w fun e w' => e = .returned v ∧ w' = w) (hK : K (a.put o.dst v) w) :
  if Region.wanted o (yielded ops a.tmps) = true then Oper.wp P o a w K Q else E := by
 rw [if_pos hw];have e1 : execOp a.eval o = callFunc f args := by
  cases o
  simp only at ho;subst ho;rw [← hargs]
  rfl
 unfold Oper.wp;rw [e1, he args w];rw [Oper.upon_enter];refine hc.mono ?_;rintro e w' ⟨rfl, rfl⟩;exact hK
theorem Wr.after {w w1 : World} {p : Nat} {v : Value} {zs : List Nat} {why : Int} {base : Nat} (h : Wr w p v zs why base) (hg : w.grownBy w1 v.ownBlock) : w1.heap[p]? = some (.cells #[v, .int .i64 why] 122 (0, 0)) :=
 (hg.block p h.lt (fun e => h.2.2.1 e.symm)).trans h.1
theorem cell0_of {w : World} {p : Nat} {v : Value} {why : Int} (h : w.heap[p]? = some (.cells #[v, .int .i64 why] 122 (0, 0))) : w.cell? ⟨p, 0, none⟩ = some v := by rw [cell_of_row w p 0 _ _ _ h]; rfl
theorem thawed_of {w : World} {p : Nat} {v : Value} {why : Int} (h : w.heap[p]? = some (.cells #[v, .int .i64 why] 122 (0, 0))) : w.frozen? ⟨p, 0, none⟩ = false := by simp [World.frozen?, h]
theorem small_append {xs ys : List Nat} (hx : ∀ z ∈ xs, z < 256) (hy : ∀ z ∈ ys, z < 256) : ∀ z ∈ xs ++ ys, z < 256 := fun z hz => (List.mem_append.1 hz).elim (hx z) (hy z)
theorem Wr.stored {w w0 w1 : World} {p : Nat} {v v' : Value} {zs ys : List Nat} {base : Nat} (h : Wr w p v zs 0 base) (hw : Keeps (Foot p v) w w0) (hs : w.heap.size ≤ w0.heap.size) (hp : w1.heap[p]? = some (.cells #[v, .int .i64 0] 122 (0, 0))) (ho : Own w1 base v' (zs ++ ys)) (hg : w0.grownBy w1 v.ownBlock) (hat : v'.ownBlock = v.ownBlock ∨ v'.ownBlock = some w0.heap.size) (hy : ∀ z ∈ ys, z < 256) :
  ∃ v'', Wr (w1.setCell ⟨p, 0, none⟩ v') p v'' (zs ++ ys) 0 base ∧ Keeps (Foot p v) w (w1.setCell ⟨p, 0, none⟩ v') ∧ At w v v'' := by
 have hA : At w v v' := (At.refl w v).step hs hat;refine ⟨v', Wr.store hp ho (fun e => h.2.2.1 (hA.foot p h.lt e)) (small_append h.2.2.2 hy), (hw.trans (Keeps.of_grown hg) (fun i _ e => Or.inr e)).trans (Keeps.setCell w1 p 0 _) (fun i _ e => .inl e), hA⟩
end Go.Proofs.YtmfkggngjeolcaaGreatDoor
