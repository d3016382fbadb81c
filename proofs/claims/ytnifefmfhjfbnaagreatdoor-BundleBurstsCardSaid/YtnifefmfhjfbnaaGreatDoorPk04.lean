import Derived.Test.YtnifefmfhjfbnaaGreatDoorPk03
/- clone; numbers as bytes; the Writer's calls. -/
namespace Go.Proofs.YtnifefmfhjfbnaaGreatDoor
open Go.RowKit
namespace Pl
/-- a number's bytes, the lowest first -/
def le : Nat → Nat → List Nat
 | 0, _ => []
 | k + 1, n => n % 256 :: le k (n / 256)
theorem le_length (k n : Nat) : (le k n).length = k := by
 induction k generalizing n with
 | zero => rfl
 | succ k ih => simp [le, ih]
theorem le_small (k n : Nat) : ∀ z ∈ le k n, z < 256 := by
 induction k generalizing n with
 | zero => intro z hz; cases hz
 | succ k ih =>
  intro z hz
  rcases List.mem_cons.1 hz with rfl | h
  ·omega
  ·exact ih _ z h
/-- the number without its k lowest bytes -/
def shr : Nat → Nat → Nat
 | 0, n => n
 | k + 1, n => shr k n / 256
theorem le_snoc (k n : Nat) : le (k + 1) n = le k n ++ [shr k n % 256] := by
 induction k generalizing n with
 | zero => rfl
 | succ k ih =>
  have e : ∀ k n, shr k (n / 256) = shr (k + 1) n := by
   intro k n
   induction k with
   | zero => rfl
   | succ k ih2 => show shr k (n / 256) / 256 = _; rw [ih2]; rfl
  rw [show le (k + 1 + 1) n = n % 256 :: le (k + 1) (n / 256) from rfl, ih, e]
  rfl
end Pl
set_option maxRecDepth 100000 in
set_option maxHeartbeats 2000000 in
theorem clone_any {v : Value} {p : List Nat} {w : World} (hv : Sl w v p) (hp : p.length ≤ 1099511627776) :
  Calls Tryz.prog 72 #[v] w fun e w' => e = .returned (.slice (some ⟨w.heap.size, 0, none⟩) p.length p.length) ∧ Row w' w.heap.size p ∧ Below w.heap.size w w' := by
 obtain ⟨ao, cap, rfl, h1, h2, h3, h4, h5⟩ := hv
 obtain ⟨i, hi, hz0, hz1, hz2⟩ := info_parts info_byte
 have H5 : Hid (∀ i, i < p.length → ∃ b o, ao = some ⟨b, o, none⟩ ∧ w.cell? ⟨b, o + i, none⟩ = some (.int .u8 (p.getD i 0 : Nat))) := h5
 clear h3 h4 h5
 go_enter Tryz.func72, Tryz.ntmps72
 go_wp2_with (at_make; refine wpList_make_full _ rfl _ _ 22 rfl w.heap.size 5 i (.int .u8 0) 1 Tryz.underlying22 hi hz0 hz1 _ _ _ _ p.length rfl rfl (by omega) (by omega) (by rw [hz2]; omega) (by simp only [maxLen]; omega) (Nat.le_refl _) ?_)
 intro w1 hown hgrow
 have HR0 : Hid (Row w1 w.heap.size (List.replicate p.length 0)) := row_made hown
 have HB1 : Hid (Below w.heap.size w w1) := (Below.refl _ _).grown hgrow (Nat.le_refl _) (by simp)
 clear hown hgrow
 have HSz : Hid ((Tryz.prog.info? 5).map (·.size) = some 1) := by show _ = _; rw [hi, Option.map_some, hz1]
 have HPos : Hid (0 < (bvs p).length → (some ⟨w.heap.size, 0, none⟩ : Option Addr) = some ⟨w.heap.size, 0, none⟩ ∧ ∃ ad, ao = some ad ∧ ∀ j v, (bvs p)[j]? = some v → w1.cell? (ad.add j) = some v) := by
  intro hp0
  rw [bvs_length] at hp0
  obtain ⟨b, o, e, _⟩ := H5.out 0 hp0
  refine ⟨rfl, ⟨b, o, none⟩, e, fun j v hj => ?_⟩
  have hjl : j < p.length := by simpa [bvs_length] using (List.getElem?_eq_some_iff.1 hj).1
  obtain ⟨b', o', e', hc⟩ := H5.out j hjl
  rw [e] at e'
  cases e'
  rw [bvs_get p j hjl] at hj
  rw [Addr.add_lit, HB1.out.cell (p := ⟨b, o + j, none⟩) (World.block_lt_of_cell? w _ hc), hc, hj]
 have HPl : Hid ((bvs p).length = p.length) := bvs_length p
 go_wp2_with (refine wpList_copy_splice rfl (.tmp 7) (.tmp 8) 22 22 rfl 5 Tryz.underlying22 HSz.out _ ao _ _ p.length cap rfl rfl w.heap.size 0 (bvs (List.replicate p.length 0)) 5 HR0.out (bvs p) (by rw [HPl.out]; exact (Nat.min_self _).symm) HPos.out (by rw [HPl.out, bvs_length, List.length_replicate]; omega) (bvs_one p) w.heap.size w HB1.out (Nat.le_refl _) ?_)
 intro w2 HG2 hB2
 have HR2 : Hid (Row w2 w.heap.size p) := by
  have h := HG2.out
  rw [splice_front, Nat.sub_self, List.replicate_zero, List.append_nil] at h
  exact h
 have HB2 : Hid (Below w.heap.size w w2) := hB2
 clear hB2 HG2 HPos HSz HPl HR0 HB1 H5
 go_wp2
 go_ret
 exact ⟨rfl, HR2.out, HB2.out⟩
set_option maxHeartbeats 400000 in
theorem newWriter_any (w : World) : Calls Tryz.prog 16 #[] w fun e w' => e = .returned (.pointer (some ⟨w.heap.size, 0, none⟩)) ∧ Wr w' w.heap.size (.slice none 0 0) [] 0 w.heap.size ∧ Below w.heap.size w w' := by
 go_enter Tryz.func16, Tryz.ntmps16
 go_wp2
 go_ret
 exact ⟨rfl, ⟨heap_alloc_new w _, own_nil _ _, by simp [Value.ownBlock], by simp⟩, (Below.refl _ _).alloc (Nat.le_refl _) _⟩
set_option maxHeartbeats 400000 in
theorem len_any {w : World} {p : Nat} {v : Value} {zs : List Nat} {why : Int} {base : Nat} (h : Wr w p v zs why base) :
  Calls Tryz.prog 78 #[.pointer (some ⟨p, 0, none⟩)] w fun e w' => e = .returned (.int .i64 zs.length) ∧ w' = w := by
 have c0 := h.cell0
 obtain ⟨ao, cap, rfl, h1, h2, _⟩ := h.2.1.sl h.2.2.2
 clear h
 go_enter Tryz.func78, Tryz.ntmps78
 go_wp2
 go_ret
 exact ⟨rfl, rfl⟩
set_option maxHeartbeats 400000 in
theorem all_any {w : World} {p : Nat} {v : Value} {zs : List Nat} {why : Int} {base : Nat} (h : Wr w p v zs why base) (hp : zs.length ≤ 1099511627776) :
  Calls Tryz.prog 37 #[.pointer (some ⟨p, 0, none⟩)] w fun e w' => e = .returned (.slice (some ⟨w.heap.size, 0, none⟩) zs.length zs.length) ∧ Row w' w.heap.size zs ∧ Below w.heap.size w w' := by
 have c0 := h.cell0
 have HC : Hid (Calls Tryz.prog 72 #[v] w fun e w' => e = .returned (.slice (some ⟨w.heap.size, 0, none⟩) zs.length zs.length) ∧ Row w' w.heap.size zs ∧ Below w.heap.size w w') := clone_any (h.2.1.sl h.2.2.2) hp
 obtain ⟨ao, cap, rfl, h1, h2, _⟩ := h.2.1.sl h.2.2.2
 clear h
 go_enter Tryz.func37, Tryz.ntmps37
 go_wp2_with fail
 refine HC.out.mono ?_
 rintro e w' ⟨rfl, hr, hb⟩
 have HR : Hid (Row w' w.heap.size zs ∧ Below w.heap.size w w') := ⟨hr, hb⟩
 clear hr hb
 go_wp2
 go_ret
 exact ⟨rfl, HR.out⟩
end Go.Proofs.YtnifefmfhjfbnaaGreatDoor
/- Numbers as bytes: size, extend, lay, and the Writer's calls Byte, Half, Word, Long. -/
namespace Go.Proofs.YtnifefmfhjfbnaaGreatDoor
open Go.RowKit
theorem mod256 (r : Nat) : ((r % 256 : Nat) : Int) = (r : Int) % 256 := by omega
theorem div256 (r : Nat) : ((r / 256 : Nat) : Int) = (r : Int) / 256 := by omega
theorem row_one (w : World) (r : Nat) : Row (w.alloc (.cells #[.int .u8 ((r : Int) % 256)] 5)) w.heap.size [r % 256] := by
 rw [Row, show (w.alloc (.cells #[.int .u8 ((r : Int) % 256)] 5)).heap[w.heap.size]? = _ from heap_alloc_new w _]
 rw [← mod256]
 rfl
theorem sl_one (w : World) (r : Nat) : Sl (w.alloc (.cells #[.int .u8 ((r : Int) % 256)] 5)) (.slice (some ⟨w.heap.size, 0, none⟩) 1 1) [r % 256] :=
 (row_one w r).sl (by simp; omega) 0 1 1 (by simp) (by omega) (by simp [maxLen])
theorem At.refl (w : World) (v : Value) : At w v v := .inl rfl
theorem At.step {w w1 : World} {v v1 v2 : Value} (h : At w v v1) (hs : w.heap.size ≤ w1.heap.size) (h2 : v2.ownBlock = v1.ownBlock ∨ v2.ownBlock = some w1.heap.size) : At w v v2 := by
 rcases h2 with h2 | h2
 ·rcases h with h | ⟨k, hk, hle⟩
  ·exact .inl (h2.trans h)
  ·exact .inr ⟨k, h2.trans hk, hle⟩
 ·exact .inr ⟨_, h2, hs⟩
/-- what is written through At v lies in v's row or is new -/
theorem At.foot {w : World} {v v1 : Value} (h : At w v v1) : ∀ k, k < w.heap.size → v1.ownBlock = some k → v.ownBlock = some k := by
 intro k hk e
 rcases h with h | ⟨j, hj, hle⟩
 ·rw [← h, e]
 ·rw [hj] at e
  cases e
  omega

set_option maxHeartbeats 400000 in
theorem greatest_u8 (w : World) : Calls Tryz.prog 149 #[] w fun e w' => e = .returned (.int .u8 255) ∧ w' = w := by
 go_enter Tryz.func149, Tryz.ntmps149
 go_wp2
 go_ret
 exact ⟨congrArg (fun z => Ending.returned (.int .u8 z)) (by decide), rfl⟩
set_option maxHeartbeats 1000000 in
theorem size_u8 (w : World) : Calls Tryz.prog 145 #[] w fun e w' => e = .returned (.int .i64 1) ∧ w' = w := by
 go_enter Tryz.func145, Tryz.ntmps145
 go_wp2_with (go_at_call 149; refine (greatest_u8 _).mono ?_; rintro e w' ⟨rfl, rfl⟩)
 go_loop [1, 2] (fun n r => (n = .int .i64 0 ∧ r = .int .u64 255) ∨ (n = .int .i64 1 ∧ r = .int .u64 0)) (fun n _ => 1 - (intOf n).toNat)
 case atStart => exact .inl ⟨rfl, rfl⟩
 case round =>
  rcases hrel with ⟨rfl, rfl⟩ | ⟨rfl, rfl⟩
  ·go_wp2
   go_round
   case rel => exact .inr (⟨rfl, rfl⟩)
   case measure => simp [intOf]
  ·go_wp2
   go_ret
   exact ⟨rfl, rfl⟩
set_option maxHeartbeats 1000000 in
theorem extend_u8 {v : Value} {xs : List Nat} {n base : Nat} {w : World} (ho : Own w base v xs) (hn : n ≤ 255) (hl : xs.length ≤ 549755813888) (hb : base ≤ w.heap.size) :
  Calls Tryz.prog 140 #[v, .int .u8 n] w fun e w' => ∃ v', e = .returned v' ∧ Own w' base v' (xs ++ Pl.le 1 n) ∧ Keeps (fun k => v.ownBlock = some k) w w' ∧ At w v v' := by
 have := hn
 have HO0 : Hid (Own w base v (xs ++ Pl.le 0 n)) := by rw [Pl.le, List.append_nil]; exact ho
 clear ho
 go_enter Tryz.func140, Tryz.ntmps140
 go_wp2_with (go_at_call 145; refine (size_u8 _).mono ?_; rintro e w' ⟨rfl, hw⟩; have hw := hw.symm; subst hw)
 go_loopw [0, 5, 9] (fun b r i wr => ∃ k : Nat, k ≤ 1 ∧ i = .int .i64 (k : Int) ∧ r = .int .u64 ((Pl.shr k n : Nat) : Int) ∧ Hid (Own wr base b (xs ++ Pl.le k n)) ∧ Hid (Keeps (fun k => v.ownBlock = some k) w wr) ∧ Hid (At w v b)) (fun _ _ i _ => 1 - (intOf i).toNat)
 case atStart => exact ⟨0, by omega, rfl, rfl, HO0, Keeps.refl _ _, At.refl _ _⟩
 case round =>
  obtain ⟨k, hk, rfl, rfl, HO, HK, HA⟩ := hrel
  clear HO0
  have HS : Hid (Pl.shr (k + 1) n = Pl.shr k n / 256) := (rfl : _ = _)
  have HL : Hid (Pl.le (k + 1) n = Pl.le k n ++ [Pl.shr k n % 256]) := Pl.le_snoc k n
  have HLen : Hid ((xs ++ Pl.le k n).length = xs.length + k) := by show _ = _; rw [List.length_append, Pl.le_length]
  by_cases hlt : k < 1
  ·generalize Pl.shr k n = r at *
   have HSl : Hid (Sl (wr.alloc (.cells #[.int .u8 ((r : Int) % 256)] 5)) (.slice (some ⟨wr.heap.size, 0, none⟩) 1 1) [r % 256]) := sl_one wr r
   have HOA : Hid (Own (wr.alloc (.cells #[.int .u8 ((r : Int) % 256)] 5)) base u0 (xs ++ Pl.le k n)) := HO.out.below ((Below.refl _ _).alloc (Nat.le_refl _) _)
   have HBase : Hid (base ≤ wr.heap.size) := Nat.le_trans hb HK.out.size
   go_wp2_with (at_builtin; refine wpList_append_sl (v := u0) (.tmp 11) (.tmp 14) (by rfl) rfl rfl HOA.out rfl HSl.out (by rw [HLen.out]; simp only [List.length_cons, List.length_nil]; omega) (by simp; exact Nat.le_succ_of_le HBase.out) ?_; intro v2 w2 h2 g2 l2; have HO2 : Hid (Own w2 base v2 (xs ++ Pl.le k n ++ [r % 256])) := h2; have HG2 : Hid ((wr.alloc (.cells #[.int .u8 ((r : Int) % 256)] 5)).grownBy w2 u0.ownBlock) := g2; have HL2 : Hid (v2.ownBlock = u0.ownBlock ∨ v2.ownBlock = some (wr.alloc (.cells #[.int .u8 ((r : Int) % 256)] 5)).heap.size) := l2; clear h2 g2 l2)
   go_roundw
   case rel =>
    have hk1 : Keeps (fun k => v.ownBlock = some k) w (wr.alloc (.cells #[.int .u8 ((r : Int) % 256)] 5)) := HK.out.trans (Keeps.alloc (S := fun _ => False) wr _) (fun _ _ h => h.elim)
    refine ⟨k + 1, by omega, by go_num, by rw [HS.out, div256], ?_, hk1.trans (Keeps.of_grown HG2.out) (fun j hj e => HA.out.foot j hj e), HA.out.step hk1.size HL2.out⟩
    have h := HO2.out
    rw [List.append_assoc, ← HL.out] at h
    exact h
   case measure => simp [intOf]; omega
  ·have HE : Hid (k = 1) := (by omega : k = 1)
   go_wp2
   go_ret
   have h := HO.out
   rw [HE.out] at h
   exact ⟨_, rfl, h, HK.out, HA.out⟩

set_option maxHeartbeats 1000000 in
theorem lay_u8 {w : World} {p n base : Nat} {v : Value} {zs : List Nat} (h : Wr w p v zs 0 base) (hn : n ≤ 255) (hl : zs.length ≤ 549755813888) (hb : base ≤ w.heap.size) :
  Calls Tryz.prog 129 #[.pointer (some ⟨p, 0, none⟩), .int .u8 n] w fun e w' => e = .returned (.tuple #[]) ∧ ∃ v', Wr w' p v' (zs ++ Pl.le 1 n) 0 base ∧ Keeps (Foot p v) w w' ∧ At w v v' := by
 have c0 := h.cell0
 have c1 := h.cell1
 have HW : Hid (Wr w p v zs 0 base) := h
 have HC : Hid (Calls Tryz.prog 140 #[v, .int .u8 n] w fun e w' => ∃ v', e = .returned v' ∧ Own w' base v' (zs ++ Pl.le 1 n) ∧ Keeps (fun k => v.ownBlock = some k) w w' ∧ At w v v') := extend_u8 h.2.1 hn hl hb
 clear h
 go_enter Tryz.func129, Tryz.ntmps129
 go_wp2_with fail
 refine HC.out.mono ?_
 rintro e w1 ⟨v1, rfl, ho, hk, ha⟩
 have hp1 : w1.heap[p]? = some (.cells #[v, .int .i64 0] 92 (0, 0)) := (hk.block p HW.out.lt HW.out.2.2.1).trans HW.out.1
 have hc1 : w1.cell? ⟨p, 0, none⟩ = some v := by rw [cell_of_row w1 p 0 _ _ _ hp1]; rfl
 have ht1 : w1.frozen? ⟨p, 0, none⟩ = false := by simp [World.frozen?, hp1]
 have HO : Hid (Own w1 base v1 (zs ++ Pl.le 1 n)) := ho
 have HK : Hid (Keeps (fun k => v.ownBlock = some k) w w1) := hk
 have HA : Hid (At w v v1) := ha
 obtain ⟨ao1, m1, cap1, hv1⟩ : ∃ a m c, v1 = .slice a m c := by
  rcases ho.2 with ⟨e, h0⟩ | ⟨g, c, _, e, _⟩
  ·exact ⟨_, _, _, e⟩
  ·exact ⟨_, _, _, e⟩
 subst hv1
 have HP : Hid (w1.heap[p]? = some (.cells #[v, .int .i64 0] 92 (0, 0))) := hp1
 clear hp1 ho hk ha HC c0 c1
 go_wp2
 go_end0
 refine ⟨rfl, _, Wr.store HP.out HO.out ?_ ?_, (HK.out.mono (fun i _ e => Or.inr e)).trans (Keeps.setCell w1 p 0 _) (fun i _ e => .inl e), HA.out⟩
 ·intro e
  exact HW.out.2.2.1 (HA.out.foot p HW.out.lt e)
 ·intro z hz
  rcases List.mem_append.1 hz with h | h
  ·exact HW.out.2.2.2 z h
  ·exact Pl.le_small _ _ z h
set_option maxHeartbeats 400000 in
theorem put_u8 {w : World} {p n base : Nat} {v : Value} {zs : List Nat} (h : Wr w p v zs 0 base) (hn : n ≤ 255) (hl : zs.length ≤ 549755813888) (hb : base ≤ w.heap.size) :
  Calls Tryz.prog 112 #[.pointer (some ⟨p, 0, none⟩), .int .u8 n] w fun e w' => e = .returned (.tuple #[]) ∧ ∃ v', Wr w' p v' (zs ++ Pl.le 1 n) 0 base ∧ Keeps (Foot p v) w w' ∧ At w v v' := by
 have HC : Hid (Calls Tryz.prog 129 #[.pointer (some ⟨p, 0, none⟩), .int .u8 n] w fun e w' => e = .returned (.tuple #[]) ∧ ∃ v', Wr w' p v' (zs ++ Pl.le 1 n) 0 base ∧ Keeps (Foot p v) w w' ∧ At w v v') := lay_u8 h hn hl hb
 clear h
 go_enter Tryz.func112, Tryz.ntmps112
 go_wp2_with fail
 refine HC.out.mono ?_
 rintro e w1 ⟨rfl, hx⟩
 have HX : Hid (∃ v', Wr w1 p v' (zs ++ Pl.le 1 n) 0 base ∧ Keeps (Foot p v) w w1 ∧ At w v v') := hx
 clear hx HC
 go_wp2
 go_end0
 exact ⟨rfl, HX.out⟩
set_option maxHeartbeats 400000 in
theorem greatest_u16 (w : World) : Calls Tryz.prog 142 #[] w fun e w' => e = .returned (.int .u16 65535) ∧ w' = w := by
 go_enter Tryz.func142, Tryz.ntmps142
 go_wp2
 go_ret
 exact ⟨congrArg (fun z => Ending.returned (.int .u16 z)) (by decide), rfl⟩
set_option maxHeartbeats 1000000 in
theorem size_u16 (w : World) : Calls Tryz.prog 131 #[] w fun e w' => e = .returned (.int .i64 2) ∧ w' = w := by
 go_enter Tryz.func131, Tryz.ntmps131
 go_wp2_with (go_at_call 142; refine (greatest_u16 _).mono ?_; rintro e w' ⟨rfl, rfl⟩)
 go_loop [1, 2] (fun n r => (n = .int .i64 0 ∧ r = .int .u64 65535) ∨ (n = .int .i64 1 ∧ r = .int .u64 255) ∨ (n = .int .i64 2 ∧ r = .int .u64 0)) (fun n _ => 2 - (intOf n).toNat)
 case atStart => exact .inl ⟨rfl, rfl⟩
 case round =>
  rcases hrel with ⟨rfl, rfl⟩ | ⟨rfl, rfl⟩ | ⟨rfl, rfl⟩
  ·go_wp2
   go_round
   case rel => exact .inr (.inl ⟨rfl, rfl⟩)
   case measure => simp [intOf]
  ·go_wp2
   go_round
   case rel => exact .inr (.inr (⟨rfl, rfl⟩))
   case measure => simp [intOf]
  ·go_wp2
   go_ret
   exact ⟨rfl, rfl⟩
set_option maxHeartbeats 1000000 in
theorem extend_u16 {v : Value} {xs : List Nat} {n base : Nat} {w : World} (ho : Own w base v xs) (hn : n ≤ 65535) (hl : xs.length ≤ 549755813888) (hb : base ≤ w.heap.size) :
  Calls Tryz.prog 114 #[v, .int .u16 n] w fun e w' => ∃ v', e = .returned v' ∧ Own w' base v' (xs ++ Pl.le 2 n) ∧ Keeps (fun k => v.ownBlock = some k) w w' ∧ At w v v' := by
 have := hn
 have HO0 : Hid (Own w base v (xs ++ Pl.le 0 n)) := by rw [Pl.le, List.append_nil]; exact ho
 clear ho
 go_enter Tryz.func114, Tryz.ntmps114
 go_wp2_with (go_at_call 131; refine (size_u16 _).mono ?_; rintro e w' ⟨rfl, hw⟩; have hw := hw.symm; subst hw)
 go_loopw [0, 5, 9] (fun b r i wr => ∃ k : Nat, k ≤ 2 ∧ i = .int .i64 (k : Int) ∧ r = .int .u64 ((Pl.shr k n : Nat) : Int) ∧ Hid (Own wr base b (xs ++ Pl.le k n)) ∧ Hid (Keeps (fun k => v.ownBlock = some k) w wr) ∧ Hid (At w v b)) (fun _ _ i _ => 2 - (intOf i).toNat)
 case atStart => exact ⟨0, by omega, rfl, rfl, HO0, Keeps.refl _ _, At.refl _ _⟩
 case round =>
  obtain ⟨k, hk, rfl, rfl, HO, HK, HA⟩ := hrel
  clear HO0
  have HS : Hid (Pl.shr (k + 1) n = Pl.shr k n / 256) := (rfl : _ = _)
  have HL : Hid (Pl.le (k + 1) n = Pl.le k n ++ [Pl.shr k n % 256]) := Pl.le_snoc k n
  have HLen : Hid ((xs ++ Pl.le k n).length = xs.length + k) := by show _ = _; rw [List.length_append, Pl.le_length]
  by_cases hlt : k < 2
  ·generalize Pl.shr k n = r at *
   have HSl : Hid (Sl (wr.alloc (.cells #[.int .u8 ((r : Int) % 256)] 5)) (.slice (some ⟨wr.heap.size, 0, none⟩) 1 1) [r % 256]) := sl_one wr r
   have HOA : Hid (Own (wr.alloc (.cells #[.int .u8 ((r : Int) % 256)] 5)) base u0 (xs ++ Pl.le k n)) := HO.out.below ((Below.refl _ _).alloc (Nat.le_refl _) _)
   have HBase : Hid (base ≤ wr.heap.size) := Nat.le_trans hb HK.out.size
   go_wp2_with (at_builtin; refine wpList_append_sl (v := u0) (.tmp 11) (.tmp 14) (by rfl) rfl rfl HOA.out rfl HSl.out (by rw [HLen.out]; simp only [List.length_cons, List.length_nil]; omega) (by simp; exact Nat.le_succ_of_le HBase.out) ?_; intro v2 w2 h2 g2 l2; have HO2 : Hid (Own w2 base v2 (xs ++ Pl.le k n ++ [r % 256])) := h2; have HG2 : Hid ((wr.alloc (.cells #[.int .u8 ((r : Int) % 256)] 5)).grownBy w2 u0.ownBlock) := g2; have HL2 : Hid (v2.ownBlock = u0.ownBlock ∨ v2.ownBlock = some (wr.alloc (.cells #[.int .u8 ((r : Int) % 256)] 5)).heap.size) := l2; clear h2 g2 l2)
   go_roundw
   case rel =>
    have hk1 : Keeps (fun k => v.ownBlock = some k) w (wr.alloc (.cells #[.int .u8 ((r : Int) % 256)] 5)) := HK.out.trans (Keeps.alloc (S := fun _ => False) wr _) (fun _ _ h => h.elim)
    refine ⟨k + 1, by omega, by go_num, by rw [HS.out, div256], ?_, hk1.trans (Keeps.of_grown HG2.out) (fun j hj e => HA.out.foot j hj e), HA.out.step hk1.size HL2.out⟩
    have h := HO2.out
    rw [List.append_assoc, ← HL.out] at h
    exact h
   case measure => simp [intOf]; omega
  ·have HE : Hid (k = 2) := (by omega : k = 2)
   go_wp2
   go_ret
   have h := HO.out
   rw [HE.out] at h
   exact ⟨_, rfl, h, HK.out, HA.out⟩

set_option maxHeartbeats 1000000 in
theorem lay_u16 {w : World} {p n base : Nat} {v : Value} {zs : List Nat} (h : Wr w p v zs 0 base) (hn : n ≤ 65535) (hl : zs.length ≤ 549755813888) (hb : base ≤ w.heap.size) :
  Calls Tryz.prog 73 #[.pointer (some ⟨p, 0, none⟩), .int .u16 n] w fun e w' => e = .returned (.tuple #[]) ∧ ∃ v', Wr w' p v' (zs ++ Pl.le 2 n) 0 base ∧ Keeps (Foot p v) w w' ∧ At w v v' := by
 have c0 := h.cell0
 have c1 := h.cell1
 have HW : Hid (Wr w p v zs 0 base) := h
 have HC : Hid (Calls Tryz.prog 114 #[v, .int .u16 n] w fun e w' => ∃ v', e = .returned v' ∧ Own w' base v' (zs ++ Pl.le 2 n) ∧ Keeps (fun k => v.ownBlock = some k) w w' ∧ At w v v') := extend_u16 h.2.1 hn hl hb
 clear h
 go_enter Tryz.func73, Tryz.ntmps73
 go_wp2_with fail
 refine HC.out.mono ?_
 rintro e w1 ⟨v1, rfl, ho, hk, ha⟩
 have hp1 : w1.heap[p]? = some (.cells #[v, .int .i64 0] 92 (0, 0)) := (hk.block p HW.out.lt HW.out.2.2.1).trans HW.out.1
 have hc1 : w1.cell? ⟨p, 0, none⟩ = some v := by rw [cell_of_row w1 p 0 _ _ _ hp1]; rfl
 have ht1 : w1.frozen? ⟨p, 0, none⟩ = false := by simp [World.frozen?, hp1]
 have HO : Hid (Own w1 base v1 (zs ++ Pl.le 2 n)) := ho
 have HK : Hid (Keeps (fun k => v.ownBlock = some k) w w1) := hk
 have HA : Hid (At w v v1) := ha
 obtain ⟨ao1, m1, cap1, hv1⟩ : ∃ a m c, v1 = .slice a m c := by
  rcases ho.2 with ⟨e, h0⟩ | ⟨g, c, _, e, _⟩
  ·exact ⟨_, _, _, e⟩
  ·exact ⟨_, _, _, e⟩
 subst hv1
 have HP : Hid (w1.heap[p]? = some (.cells #[v, .int .i64 0] 92 (0, 0))) := hp1
 clear hp1 ho hk ha HC c0 c1
 go_wp2
 go_end0
 refine ⟨rfl, _, Wr.store HP.out HO.out ?_ ?_, (HK.out.mono (fun i _ e => Or.inr e)).trans (Keeps.setCell w1 p 0 _) (fun i _ e => .inl e), HA.out⟩
 ·intro e
  exact HW.out.2.2.1 (HA.out.foot p HW.out.lt e)
 ·intro z hz
  rcases List.mem_append.1 hz with h | h
  ·exact HW.out.2.2.2 z h
  ·exact Pl.le_small _ _ z h
set_option maxHeartbeats 400000 in
theorem put_u16 {w : World} {p n base : Nat} {v : Value} {zs : List Nat} (h : Wr w p v zs 0 base) (hn : n ≤ 65535) (hl : zs.length ≤ 549755813888) (hb : base ≤ w.heap.size) :
  Calls Tryz.prog 39 #[.pointer (some ⟨p, 0, none⟩), .int .u16 n] w fun e w' => e = .returned (.tuple #[]) ∧ ∃ v', Wr w' p v' (zs ++ Pl.le 2 n) 0 base ∧ Keeps (Foot p v) w w' ∧ At w v v' := by
 have HC : Hid (Calls Tryz.prog 73 #[.pointer (some ⟨p, 0, none⟩), .int .u16 n] w fun e w' => e = .returned (.tuple #[]) ∧ ∃ v', Wr w' p v' (zs ++ Pl.le 2 n) 0 base ∧ Keeps (Foot p v) w w' ∧ At w v v') := lay_u16 h hn hl hb
 clear h
 go_enter Tryz.func39, Tryz.ntmps39
 go_wp2_with fail
 refine HC.out.mono ?_
 rintro e w1 ⟨rfl, hx⟩
 have HX : Hid (∃ v', Wr w1 p v' (zs ++ Pl.le 2 n) 0 base ∧ Keeps (Foot p v) w w1 ∧ At w v v') := hx
 clear hx HC
 go_wp2
 go_end0
 exact ⟨rfl, HX.out⟩
set_option maxHeartbeats 400000 in
theorem greatest_u32 (w : World) : Calls Tryz.prog 143 #[] w fun e w' => e = .returned (.int .u32 4294967295) ∧ w' = w := by
 go_enter Tryz.func143, Tryz.ntmps143
 go_wp2
 go_ret
 exact ⟨congrArg (fun z => Ending.returned (.int .u32 z)) (by decide), rfl⟩
set_option maxHeartbeats 1000000 in
theorem size_u32 (w : World) : Calls Tryz.prog 132 #[] w fun e w' => e = .returned (.int .i64 4) ∧ w' = w := by
 go_enter Tryz.func132, Tryz.ntmps132
 go_wp2_with (go_at_call 143; refine (greatest_u32 _).mono ?_; rintro e w' ⟨rfl, rfl⟩)
 go_loop [1, 2] (fun n r => (n = .int .i64 0 ∧ r = .int .u64 4294967295) ∨ (n = .int .i64 1 ∧ r = .int .u64 16777215) ∨ (n = .int .i64 2 ∧ r = .int .u64 65535) ∨ (n = .int .i64 3 ∧ r = .int .u64 255) ∨ (n = .int .i64 4 ∧ r = .int .u64 0)) (fun n _ => 4 - (intOf n).toNat)
 case atStart => exact .inl ⟨rfl, rfl⟩
 case round =>
  rcases hrel with ⟨rfl, rfl⟩ | ⟨rfl, rfl⟩ | ⟨rfl, rfl⟩ | ⟨rfl, rfl⟩ | ⟨rfl, rfl⟩
  ·go_wp2
   go_round
   case rel => exact .inr (.inl ⟨rfl, rfl⟩)
   case measure => simp [intOf]
  ·go_wp2
   go_round
   case rel => exact .inr (.inr (.inl ⟨rfl, rfl⟩))
   case measure => simp [intOf]
  ·go_wp2
   go_round
   case rel => exact .inr (.inr (.inr (.inl ⟨rfl, rfl⟩)))
   case measure => simp [intOf]
  ·go_wp2
   go_round
   case rel => exact .inr (.inr (.inr (.inr (⟨rfl, rfl⟩))))
   case measure => simp [intOf]
  ·go_wp2
   go_ret
   exact ⟨rfl, rfl⟩
set_option maxHeartbeats 1000000 in
theorem extend_u32 {v : Value} {xs : List Nat} {n base : Nat} {w : World} (ho : Own w base v xs) (hn : n ≤ 4294967295) (hl : xs.length ≤ 549755813888) (hb : base ≤ w.heap.size) :
  Calls Tryz.prog 115 #[v, .int .u32 n] w fun e w' => ∃ v', e = .returned v' ∧ Own w' base v' (xs ++ Pl.le 4 n) ∧ Keeps (fun k => v.ownBlock = some k) w w' ∧ At w v v' := by
 have := hn
 have HO0 : Hid (Own w base v (xs ++ Pl.le 0 n)) := by rw [Pl.le, List.append_nil]; exact ho
 clear ho
 go_enter Tryz.func115, Tryz.ntmps115
 go_wp2_with (go_at_call 132; refine (size_u32 _).mono ?_; rintro e w' ⟨rfl, hw⟩; have hw := hw.symm; subst hw)
 go_loopw [0, 5, 9] (fun b r i wr => ∃ k : Nat, k ≤ 4 ∧ i = .int .i64 (k : Int) ∧ r = .int .u64 ((Pl.shr k n : Nat) : Int) ∧ Hid (Own wr base b (xs ++ Pl.le k n)) ∧ Hid (Keeps (fun k => v.ownBlock = some k) w wr) ∧ Hid (At w v b)) (fun _ _ i _ => 4 - (intOf i).toNat)
 case atStart => exact ⟨0, by omega, rfl, rfl, HO0, Keeps.refl _ _, At.refl _ _⟩
 case round =>
  obtain ⟨k, hk, rfl, rfl, HO, HK, HA⟩ := hrel
  clear HO0
  have HS : Hid (Pl.shr (k + 1) n = Pl.shr k n / 256) := (rfl : _ = _)
  have HL : Hid (Pl.le (k + 1) n = Pl.le k n ++ [Pl.shr k n % 256]) := Pl.le_snoc k n
  have HLen : Hid ((xs ++ Pl.le k n).length = xs.length + k) := by show _ = _; rw [List.length_append, Pl.le_length]
  by_cases hlt : k < 4
  ·generalize Pl.shr k n = r at *
   have HSl : Hid (Sl (wr.alloc (.cells #[.int .u8 ((r : Int) % 256)] 5)) (.slice (some ⟨wr.heap.size, 0, none⟩) 1 1) [r % 256]) := sl_one wr r
   have HOA : Hid (Own (wr.alloc (.cells #[.int .u8 ((r : Int) % 256)] 5)) base u0 (xs ++ Pl.le k n)) := HO.out.below ((Below.refl _ _).alloc (Nat.le_refl _) _)
   have HBase : Hid (base ≤ wr.heap.size) := Nat.le_trans hb HK.out.size
   go_wp2_with (at_builtin; refine wpList_append_sl (v := u0) (.tmp 11) (.tmp 14) (by rfl) rfl rfl HOA.out rfl HSl.out (by rw [HLen.out]; simp only [List.length_cons, List.length_nil]; omega) (by simp; exact Nat.le_succ_of_le HBase.out) ?_; intro v2 w2 h2 g2 l2; have HO2 : Hid (Own w2 base v2 (xs ++ Pl.le k n ++ [r % 256])) := h2; have HG2 : Hid ((wr.alloc (.cells #[.int .u8 ((r : Int) % 256)] 5)).grownBy w2 u0.ownBlock) := g2; have HL2 : Hid (v2.ownBlock = u0.ownBlock ∨ v2.ownBlock = some (wr.alloc (.cells #[.int .u8 ((r : Int) % 256)] 5)).heap.size) := l2; clear h2 g2 l2)
   go_roundw
   case rel =>
    have hk1 : Keeps (fun k => v.ownBlock = some k) w (wr.alloc (.cells #[.int .u8 ((r : Int) % 256)] 5)) := HK.out.trans (Keeps.alloc (S := fun _ => False) wr _) (fun _ _ h => h.elim)
    refine ⟨k + 1, by omega, by go_num, by rw [HS.out, div256], ?_, hk1.trans (Keeps.of_grown HG2.out) (fun j hj e => HA.out.foot j hj e), HA.out.step hk1.size HL2.out⟩
    have h := HO2.out
    rw [List.append_assoc, ← HL.out] at h
    exact h
   case measure => simp [intOf]; omega
  ·have HE : Hid (k = 4) := (by omega : k = 4)
   go_wp2
   go_ret
   have h := HO.out
   rw [HE.out] at h
   exact ⟨_, rfl, h, HK.out, HA.out⟩

set_option maxHeartbeats 1000000 in
theorem lay_u32 {w : World} {p n base : Nat} {v : Value} {zs : List Nat} (h : Wr w p v zs 0 base) (hn : n ≤ 4294967295) (hl : zs.length ≤ 549755813888) (hb : base ≤ w.heap.size) :
  Calls Tryz.prog 74 #[.pointer (some ⟨p, 0, none⟩), .int .u32 n] w fun e w' => e = .returned (.tuple #[]) ∧ ∃ v', Wr w' p v' (zs ++ Pl.le 4 n) 0 base ∧ Keeps (Foot p v) w w' ∧ At w v v' := by
 have c0 := h.cell0
 have c1 := h.cell1
 have HW : Hid (Wr w p v zs 0 base) := h
 have HC : Hid (Calls Tryz.prog 115 #[v, .int .u32 n] w fun e w' => ∃ v', e = .returned v' ∧ Own w' base v' (zs ++ Pl.le 4 n) ∧ Keeps (fun k => v.ownBlock = some k) w w' ∧ At w v v') := extend_u32 h.2.1 hn hl hb
 clear h
 go_enter Tryz.func74, Tryz.ntmps74
 go_wp2_with fail
 refine HC.out.mono ?_
 rintro e w1 ⟨v1, rfl, ho, hk, ha⟩
 have hp1 : w1.heap[p]? = some (.cells #[v, .int .i64 0] 92 (0, 0)) := (hk.block p HW.out.lt HW.out.2.2.1).trans HW.out.1
 have hc1 : w1.cell? ⟨p, 0, none⟩ = some v := by rw [cell_of_row w1 p 0 _ _ _ hp1]; rfl
 have ht1 : w1.frozen? ⟨p, 0, none⟩ = false := by simp [World.frozen?, hp1]
 have HO : Hid (Own w1 base v1 (zs ++ Pl.le 4 n)) := ho
 have HK : Hid (Keeps (fun k => v.ownBlock = some k) w w1) := hk
 have HA : Hid (At w v v1) := ha
 obtain ⟨ao1, m1, cap1, hv1⟩ : ∃ a m c, v1 = .slice a m c := by
  rcases ho.2 with ⟨e, h0⟩ | ⟨g, c, _, e, _⟩
  ·exact ⟨_, _, _, e⟩
  ·exact ⟨_, _, _, e⟩
 subst hv1
 have HP : Hid (w1.heap[p]? = some (.cells #[v, .int .i64 0] 92 (0, 0))) := hp1
 clear hp1 ho hk ha HC c0 c1
 go_wp2
 go_end0
 refine ⟨rfl, _, Wr.store HP.out HO.out ?_ ?_, (HK.out.mono (fun i _ e => Or.inr e)).trans (Keeps.setCell w1 p 0 _) (fun i _ e => .inl e), HA.out⟩
 ·intro e
  exact HW.out.2.2.1 (HA.out.foot p HW.out.lt e)
 ·intro z hz
  rcases List.mem_append.1 hz with h | h
  ·exact HW.out.2.2.2 z h
  ·exact Pl.le_small _ _ z h
set_option maxHeartbeats 400000 in
theorem put_u32 {w : World} {p n base : Nat} {v : Value} {zs : List Nat} (h : Wr w p v zs 0 base) (hn : n ≤ 4294967295) (hl : zs.length ≤ 549755813888) (hb : base ≤ w.heap.size) :
  Calls Tryz.prog 40 #[.pointer (some ⟨p, 0, none⟩), .int .u32 n] w fun e w' => e = .returned (.tuple #[]) ∧ ∃ v', Wr w' p v' (zs ++ Pl.le 4 n) 0 base ∧ Keeps (Foot p v) w w' ∧ At w v v' := by
 have HC : Hid (Calls Tryz.prog 74 #[.pointer (some ⟨p, 0, none⟩), .int .u32 n] w fun e w' => e = .returned (.tuple #[]) ∧ ∃ v', Wr w' p v' (zs ++ Pl.le 4 n) 0 base ∧ Keeps (Foot p v) w w' ∧ At w v v') := lay_u32 h hn hl hb
 clear h
 go_enter Tryz.func40, Tryz.ntmps40
 go_wp2_with fail
 refine HC.out.mono ?_
 rintro e w1 ⟨rfl, hx⟩
 have HX : Hid (∃ v', Wr w1 p v' (zs ++ Pl.le 4 n) 0 base ∧ Keeps (Foot p v) w w1 ∧ At w v v') := hx
 clear hx HC
 go_wp2
 go_end0
 exact ⟨rfl, HX.out⟩
set_option maxHeartbeats 400000 in
theorem greatest_u64 (w : World) : Calls Tryz.prog 141 #[] w fun e w' => e = .returned (.int .u64 18446744073709551615) ∧ w' = w := by
 go_enter Tryz.func141, Tryz.ntmps141
 go_wp2
 go_ret
 exact ⟨congrArg (fun z => Ending.returned (.int .u64 z)) (by decide), rfl⟩
set_option maxHeartbeats 1000000 in
theorem size_u64 (w : World) : Calls Tryz.prog 133 #[] w fun e w' => e = .returned (.int .i64 8) ∧ w' = w := by
 go_enter Tryz.func133, Tryz.ntmps133
 go_wp2_with (go_at_call 141; refine (greatest_u64 _).mono ?_; rintro e w' ⟨rfl, rfl⟩)
 go_loop [1, 2] (fun n r => (n = .int .i64 0 ∧ r = .int .u64 18446744073709551615) ∨ (n = .int .i64 1 ∧ r = .int .u64 72057594037927935) ∨ (n = .int .i64 2 ∧ r = .int .u64 281474976710655) ∨ (n = .int .i64 3 ∧ r = .int .u64 1099511627775) ∨ (n = .int .i64 4 ∧ r = .int .u64 4294967295) ∨ (n = .int .i64 5 ∧ r = .int .u64 16777215) ∨ (n = .int .i64 6 ∧ r = .int .u64 65535) ∨ (n = .int .i64 7 ∧ r = .int .u64 255) ∨ (n = .int .i64 8 ∧ r = .int .u64 0)) (fun n _ => 8 - (intOf n).toNat)
 case atStart => exact .inl ⟨rfl, rfl⟩
 case round =>
  rcases hrel with ⟨rfl, rfl⟩ | ⟨rfl, rfl⟩ | ⟨rfl, rfl⟩ | ⟨rfl, rfl⟩ | ⟨rfl, rfl⟩ | ⟨rfl, rfl⟩ | ⟨rfl, rfl⟩ | ⟨rfl, rfl⟩ | ⟨rfl, rfl⟩
  ·go_wp2
   go_round
   case rel => exact .inr (.inl ⟨rfl, rfl⟩)
   case measure => simp [intOf]
  ·go_wp2
   go_round
   case rel => exact .inr (.inr (.inl ⟨rfl, rfl⟩))
   case measure => simp [intOf]
  ·go_wp2
   go_round
   case rel => exact .inr (.inr (.inr (.inl ⟨rfl, rfl⟩)))
   case measure => simp [intOf]
  ·go_wp2
   go_round
   case rel => exact .inr (.inr (.inr (.inr (.inl ⟨rfl, rfl⟩))))
   case measure => simp [intOf]
  ·go_wp2
   go_round
   case rel => exact .inr (.inr (.inr (.inr (.inr (.inl ⟨rfl, rfl⟩)))))
   case measure => simp [intOf]
  ·go_wp2
   go_round
   case rel => exact .inr (.inr (.inr (.inr (.inr (.inr (.inl ⟨rfl, rfl⟩))))))
   case measure => simp [intOf]
  ·go_wp2
   go_round
   case rel => exact .inr (.inr (.inr (.inr (.inr (.inr (.inr (.inl ⟨rfl, rfl⟩)))))))
   case measure => simp [intOf]
  ·go_wp2
   go_round
   case rel => exact .inr (.inr (.inr (.inr (.inr (.inr (.inr (.inr (⟨rfl, rfl⟩))))))))
   case measure => simp [intOf]
  ·go_wp2
   go_ret
   exact ⟨rfl, rfl⟩
set_option maxHeartbeats 1000000 in
theorem extend_u64 {v : Value} {xs : List Nat} {n base : Nat} {w : World} (ho : Own w base v xs) (hn : n ≤ 18446744073709551615) (hl : xs.length ≤ 549755813888) (hb : base ≤ w.heap.size) :
  Calls Tryz.prog 116 #[v, .int .u64 n] w fun e w' => ∃ v', e = .returned v' ∧ Own w' base v' (xs ++ Pl.le 8 n) ∧ Keeps (fun k => v.ownBlock = some k) w w' ∧ At w v v' := by
 have := hn
 have HO0 : Hid (Own w base v (xs ++ Pl.le 0 n)) := by rw [Pl.le, List.append_nil]; exact ho
 clear ho
 go_enter Tryz.func116, Tryz.ntmps116
 go_wp2_with (go_at_call 133; refine (size_u64 _).mono ?_; rintro e w' ⟨rfl, hw⟩; have hw := hw.symm; subst hw)
 go_loopw [0, 5, 8] (fun b r i wr => ∃ k : Nat, k ≤ 8 ∧ i = .int .i64 (k : Int) ∧ r = .int .u64 ((Pl.shr k n : Nat) : Int) ∧ Hid (Own wr base b (xs ++ Pl.le k n)) ∧ Hid (Keeps (fun k => v.ownBlock = some k) w wr) ∧ Hid (At w v b)) (fun _ _ i _ => 8 - (intOf i).toNat)
 case atStart => exact ⟨0, by omega, rfl, rfl, HO0, Keeps.refl _ _, At.refl _ _⟩
 case round =>
  obtain ⟨k, hk, rfl, rfl, HO, HK, HA⟩ := hrel
  clear HO0
  have HS : Hid (Pl.shr (k + 1) n = Pl.shr k n / 256) := (rfl : _ = _)
  have HL : Hid (Pl.le (k + 1) n = Pl.le k n ++ [Pl.shr k n % 256]) := Pl.le_snoc k n
  have HLen : Hid ((xs ++ Pl.le k n).length = xs.length + k) := by show _ = _; rw [List.length_append, Pl.le_length]
  by_cases hlt : k < 8
  ·generalize Pl.shr k n = r at *
   have HSl : Hid (Sl (wr.alloc (.cells #[.int .u8 ((r : Int) % 256)] 5)) (.slice (some ⟨wr.heap.size, 0, none⟩) 1 1) [r % 256]) := sl_one wr r
   have HOA : Hid (Own (wr.alloc (.cells #[.int .u8 ((r : Int) % 256)] 5)) base u0 (xs ++ Pl.le k n)) := HO.out.below ((Below.refl _ _).alloc (Nat.le_refl _) _)
   have HBase : Hid (base ≤ wr.heap.size) := Nat.le_trans hb HK.out.size
   go_wp2_with (at_builtin; refine wpList_append_sl (v := u0) (.tmp 10) (.tmp 13) (by rfl) rfl rfl HOA.out rfl HSl.out (by rw [HLen.out]; simp only [List.length_cons, List.length_nil]; omega) (by simp; exact Nat.le_succ_of_le HBase.out) ?_; intro v2 w2 h2 g2 l2; have HO2 : Hid (Own w2 base v2 (xs ++ Pl.le k n ++ [r % 256])) := h2; have HG2 : Hid ((wr.alloc (.cells #[.int .u8 ((r : Int) % 256)] 5)).grownBy w2 u0.ownBlock) := g2; have HL2 : Hid (v2.ownBlock = u0.ownBlock ∨ v2.ownBlock = some (wr.alloc (.cells #[.int .u8 ((r : Int) % 256)] 5)).heap.size) := l2; clear h2 g2 l2)
   go_roundw
   case rel =>
    have hk1 : Keeps (fun k => v.ownBlock = some k) w (wr.alloc (.cells #[.int .u8 ((r : Int) % 256)] 5)) := HK.out.trans (Keeps.alloc (S := fun _ => False) wr _) (fun _ _ h => h.elim)
    refine ⟨k + 1, by omega, by go_num, by rw [HS.out, div256], ?_, hk1.trans (Keeps.of_grown HG2.out) (fun j hj e => HA.out.foot j hj e), HA.out.step hk1.size HL2.out⟩
    have h := HO2.out
    rw [List.append_assoc, ← HL.out] at h
    exact h
   case measure => simp [intOf]; omega
  ·have HE : Hid (k = 8) := (by omega : k = 8)
   go_wp2
   go_ret
   have h := HO.out
   rw [HE.out] at h
   exact ⟨_, rfl, h, HK.out, HA.out⟩

set_option maxHeartbeats 1000000 in
theorem lay_u64 {w : World} {p n base : Nat} {v : Value} {zs : List Nat} (h : Wr w p v zs 0 base) (hn : n ≤ 18446744073709551615) (hl : zs.length ≤ 549755813888) (hb : base ≤ w.heap.size) :
  Calls Tryz.prog 75 #[.pointer (some ⟨p, 0, none⟩), .int .u64 n] w fun e w' => e = .returned (.tuple #[]) ∧ ∃ v', Wr w' p v' (zs ++ Pl.le 8 n) 0 base ∧ Keeps (Foot p v) w w' ∧ At w v v' := by
 have c0 := h.cell0
 have c1 := h.cell1
 have HW : Hid (Wr w p v zs 0 base) := h
 have HC : Hid (Calls Tryz.prog 116 #[v, .int .u64 n] w fun e w' => ∃ v', e = .returned v' ∧ Own w' base v' (zs ++ Pl.le 8 n) ∧ Keeps (fun k => v.ownBlock = some k) w w' ∧ At w v v') := extend_u64 h.2.1 hn hl hb
 clear h
 go_enter Tryz.func75, Tryz.ntmps75
 go_wp2_with fail
 refine HC.out.mono ?_
 rintro e w1 ⟨v1, rfl, ho, hk, ha⟩
 have hp1 : w1.heap[p]? = some (.cells #[v, .int .i64 0] 92 (0, 0)) := (hk.block p HW.out.lt HW.out.2.2.1).trans HW.out.1
 have hc1 : w1.cell? ⟨p, 0, none⟩ = some v := by rw [cell_of_row w1 p 0 _ _ _ hp1]; rfl
 have ht1 : w1.frozen? ⟨p, 0, none⟩ = false := by simp [World.frozen?, hp1]
 have HO : Hid (Own w1 base v1 (zs ++ Pl.le 8 n)) := ho
 have HK : Hid (Keeps (fun k => v.ownBlock = some k) w w1) := hk
 have HA : Hid (At w v v1) := ha
 obtain ⟨ao1, m1, cap1, hv1⟩ : ∃ a m c, v1 = .slice a m c := by
  rcases ho.2 with ⟨e, h0⟩ | ⟨g, c, _, e, _⟩
  ·exact ⟨_, _, _, e⟩
  ·exact ⟨_, _, _, e⟩
 subst hv1
 have HP : Hid (w1.heap[p]? = some (.cells #[v, .int .i64 0] 92 (0, 0))) := hp1
 clear hp1 ho hk ha HC c0 c1
 go_wp2
 go_end0
 refine ⟨rfl, _, Wr.store HP.out HO.out ?_ ?_, (HK.out.mono (fun i _ e => Or.inr e)).trans (Keeps.setCell w1 p 0 _) (fun i _ e => .inl e), HA.out⟩
 ·intro e
  exact HW.out.2.2.1 (HA.out.foot p HW.out.lt e)
 ·intro z hz
  rcases List.mem_append.1 hz with h | h
  ·exact HW.out.2.2.2 z h
  ·exact Pl.le_small _ _ z h
set_option maxHeartbeats 400000 in
theorem put_u64 {w : World} {p n base : Nat} {v : Value} {zs : List Nat} (h : Wr w p v zs 0 base) (hn : n ≤ 18446744073709551615) (hl : zs.length ≤ 549755813888) (hb : base ≤ w.heap.size) :
  Calls Tryz.prog 41 #[.pointer (some ⟨p, 0, none⟩), .int .u64 n] w fun e w' => e = .returned (.tuple #[]) ∧ ∃ v', Wr w' p v' (zs ++ Pl.le 8 n) 0 base ∧ Keeps (Foot p v) w w' ∧ At w v v' := by
 have HC : Hid (Calls Tryz.prog 75 #[.pointer (some ⟨p, 0, none⟩), .int .u64 n] w fun e w' => e = .returned (.tuple #[]) ∧ ∃ v', Wr w' p v' (zs ++ Pl.le 8 n) 0 base ∧ Keeps (Foot p v) w w' ∧ At w v v') := lay_u64 h hn hl hb
 clear h
 go_enter Tryz.func41, Tryz.ntmps41
 go_wp2_with fail
 refine HC.out.mono ?_
 rintro e w1 ⟨rfl, hx⟩
 have HX : Hid (∃ v', Wr w1 p v' (zs ++ Pl.le 8 n) 0 base ∧ Keeps (Foot p v) w w1 ∧ At w v v') := hx
 clear hx HC
 go_wp2
 go_end0
 exact ⟨rfl, HX.out⟩
end Go.Proofs.YtnifefmfhjfbnaaGreatDoor
