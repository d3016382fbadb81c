import Derived.Test.YtmfkggngjeolcaaGreatDoorProg
import Derived.Test.YtmfkggngjeolcaaGreatDoorPk07
import Derived.WalkKit
import Derived.WalkSpells
import Derived.WalkLawsBesides
import Derived.Shelf.Abstract
import Derived.Test.YtmfkggngjeolcaaGreatDoorPk05
import Derived.Deep.RegionHeld3
set_option linter.unusedSimpArgs false
set_option linter.unusedVariables false
set_option maxHeartbeats 4000000
set_option maxRecDepth 100000
namespace Go.Proofs.YtmfkggngjeolcaaGreatDoor.U64
open Go.RowKit Go.Shelf Go.Proofs.YtmfkggngjeolcaaGreatDoor.Sp

theorem greatest_any (w : World) : Calls Tryz.prog 182 #[] w fun e w' => e = .returned (.int .u64 18446744073709551615) ∧ w' = w := by
 go_enter Tryz.func182, Tryz.ntmps182
 go_wp2
 go_ret
 exact ⟨by kernel_rfl, rfl⟩
def addB (a b : Int) : Int × Bool := if a + b ≤ 18446744073709551615 then (a + b, true) else (0, false)
theorem add_any {a b : Int} (ha : 0 ≤ a ∧ a ≤ 18446744073709551615) (hb : 0 ≤ b ∧ b ≤ 18446744073709551615) (w : World) : Calls Tryz.prog 165 #[.int .u64 a, .int .u64 b] w fun e w' => e = .returned (.tuple #[.int .u64 (addB a b).1, .bool (addB a b).2]) ∧ w' = w := by
 by_cases h : a + b ≤ 18446744073709551615
 ·have e : addB a b = (a + b, true) := by simp [addB, h]
  rw [e];have hd : decide (18446744073709551615 - a < b) = false := decide_eq_false (by omega);clear e;go_enter Tryz.func165, Tryz.ntmps165
  go_wp2_with (go_at_call 182; refine (greatest_any _).mono ?_; rintro e w' ⟨rfl, rfl⟩)
  go_ret2
  exact ⟨rfl, rfl⟩
 ·have e : addB a b = (0, false) := by simp [addB, h]
  rw [e];have hd : decide (18446744073709551615 - a < b) = true := decide_eq_true (by omega);clear e;go_enter Tryz.func165, Tryz.ntmps165
  go_wp2_with (go_at_call 182; refine (greatest_any _).mono ?_; rintro e w' ⟨rfl, rfl⟩)
  go_ret2
  exact ⟨rfl, rfl⟩
def upB (a al : Int) : Int × Bool := if al = 0 then (0, false) else if a % al = 0 then (a, true) else addB a (al - a % al)
theorem up_any {a al : Int} (ha : 0 ≤ a ∧ a ≤ 18446744073709551615) (hb : 0 ≤ al ∧ al ≤ 18446744073709551615) (w : World) : Calls Tryz.prog 129 #[.int .u64 a, .int .u64 al] w fun e w' => e = .returned (.tuple #[.int .u64 (upB a al).1, .bool (upB a al).2]) ∧ w' = w := by
 by_cases h : al = 0
 ·have e : upB a al = (0, false) := by simp [upB, h]
  rw [e];subst h;clear e;go_enter Tryz.func129, Tryz.ntmps129
  go_wp2
  go_ret2
  exact ⟨rfl, rfl⟩
 ·have hr0 := Int.emod_nonneg a h;have hr1 := Int.emod_lt_of_pos a (show 0 < al by omega);have hq : (al == 0) = false := by simpa using h
  have hrem : Int.tmod a al = a % al := Int.tmod_eq_emod_of_nonneg ha.1
  by_cases g : a % al = 0
  ·have e : upB a al = (a, true) := by simp [upB, h, g]
   rw [e];clear e;go_enter Tryz.func129, Tryz.ntmps129
   go_wp2
   go_ret2
   exact ⟨rfl, rfl⟩
  ·have e : upB a al = addB a (al - a % al) := by simp [upB, h, g]
   rw [e];have HA : Hid (∀ W, Calls Tryz.prog 165 #[.int .u64 a, .int .u64 (al - a % al)] W fun e w' => e = .returned (.tuple #[.int .u64 (addB a (al - a % al)).1, .bool (addB a (al - a % al)).2]) ∧ w' = W) := fun W => add_any ha (by omega) W;obtain ⟨n, b, hnb⟩ : ∃ n b, addB a (al - a % al) = (n, b) := ⟨_, _, rfl⟩
   rw [hnb] at HA ⊢;clear e hnb;go_enter Tryz.func129, Tryz.ntmps129
   go_wp2_with fail
   refine (HA.out _).mono ?_;rintro e w' ⟨rfl, rfl⟩;clear HA;go_wp2_with fail
   go_ret2
   exact ⟨rfl, rfl⟩
end Go.Proofs.YtmfkggngjeolcaaGreatDoor.U64
namespace Go.Proofs.YtmfkggngjeolcaaGreatDoor
open Go.RowKit Bn
def Sx (B kb : Nat) (im : List Value) (o : Option Nat) (en : List Value) (w0 : World) (s : S) (w : World) : Prop := St B kb im o en w0 s.1.length s.1 s.2 w
section
variable {B kb : Nat} {im : List Value} {o : Option Nat} {en : List Value} {w0 : World} {s : S} {w : World}
theorem byteX (h : Sx B kb im o en w0 s w) {k : Int} (hk : I64R k) (hl : s.1.length ≤ 274877906944) : Calls Tryz.prog 90 #[.pointer (some ⟨kb, 0, none⟩), .int .i64 k] w fun e w' => e = .returned (.tuple #[]) ∧ Sx B kb im o en w0 (byteS k s) w' := byte_any h hk hl
theorem halfX (h : Sx B kb im o en w0 s w) {k : Int} (hk : I64R k) (hl : s.1.length ≤ 274877906944) : Calls Tryz.prog 87 #[.pointer (some ⟨kb, 0, none⟩), .int .i64 k] w fun e w' => e = .returned (.tuple #[]) ∧ Sx B kb im o en w0 (halfS k s) w' := half_any h hk hl
theorem noneX (h : Sx B kb im o en w0 s w) {k : Int} (hk : I64R k) (hl : s.1.length ≤ 274877906944) : Calls Tryz.prog 92 #[.pointer (some ⟨kb, 0, none⟩), .int .i64 k] w fun e w' => e = .returned (.tuple #[]) ∧ Sx B kb im o en w0 (noneS k s) w' := orNone_any h hk hl
theorem wordX (h : Sx B kb im o en w0 s w) {k : Int} (hk : I64R k) (hl : s.1.length ≤ 274877906944) : Calls Tryz.prog 95 #[.pointer (some ⟨kb, 0, none⟩), .int .i64 k] w fun e w' => e = .returned (.tuple #[]) ∧ Sx B kb im o en w0 (wordS k s) w' := lword_any h hk hl
theorem longX (h : Sx B kb im o en w0 s w) {m : Nat} (hm : m ≤ 18446744073709551615) (hl : s.1.length ≤ 274877906944) : Calls Tryz.prog 93 #[.pointer (some ⟨kb, 0, none⟩), .int .u64 (m : Int)] w fun e w' => e = .returned (.tuple #[]) ∧ Sx B kb im o en w0 (longS m s) w' := long_any h hm hl
theorem fieldX (h : Sx B kb im o en w0 s w) (b : Bool) : Calls Tryz.prog 86 #[.pointer (some ⟨kb, 0, none⟩), .bool b] w fun e w' => e = .returned (.tuple #[]) ∧ Sx B kb im o en w0 (fieldS b s) w' := field_any h b
theorem askX (h : Sx B kb im o en w0 s w) (b : Bool) (no : Int) : Calls Tryz.prog 126 #[.pointer (some ⟨kb, 0, none⟩), .bool b, .int .i64 no] w fun e w' => e = .returned (.tuple #[]) ∧ Sx B kb im o en w0 (askS b no s) w' := ask_any h b no
theorem zeros_next (c : Nat) (s : S) : byteS 0 (zerosS c s) = zerosS (c + 1) s := by
 unfold byteS zerosS;have e1 : fieldF s.2 (fitB 0 255 0) = s.2 := rfl;have e2 : Pl.le 1 ((0 : Int) % 256).toNat = [0] := rfl;rw [e2, List.append_assoc, List.replicate_succ'];exact Prod.ext rfl e1
theorem zeros_len (c : Nat) (s : S) : (zerosS c s).1.length = s.1.length + c := by simp [zerosS]
theorem zeros_zero (s : S) : zerosS 0 s = s := by simp [zerosS]
theorem zerosX (h : Sx B kb im o en w0 s w) {c : Nat} (hl : s.1.length + c ≤ 274877906944) : Calls Tryz.prog 56 #[.pointer (some ⟨kb, 0, none⟩), .int .i64 (c : Int)] w fun e w' => e = .returned (.tuple #[]) ∧ Sx B kb im o en w0 (zerosS c s) w' := by
 have H0 : Hid (Sx B kb im o en w0 (zerosS 0 s) w) := by rw [zeros_zero]; exact Lib.hid h
 have HL : Hid (s.1.length + c ≤ 274877906944) := hl;have hc : c ≤ 274877906944 := by omega
 clear h hl;go_enter Tryz.func56, Tryz.ntmps56
 go_wp2_with fail
 go_loopw [5] (fun iv wr => ∃ i : Nat, i ≤ c ∧ iv = .int .i64 (i : Int) ∧ Hid (Sx B kb im o en w0 (zerosS i s) wr)) (fun iv _ => c - (intOf iv).toNat)
 case atStart => exact ⟨0, Nat.zero_le _, rfl, H0⟩
 case round =>
  clear H0;obtain ⟨i, hi, rfl, HI⟩ := hrel
  by_cases hin : i < c
  ·have ji : (i : Int) < (c : Int) := by omega
   have hw1 : IntKind.i64.wrap ((i : Int) + 1) = ((i + 1 : Nat) : Int) := by rw [IntKind.wrap_i64]; omega
   go_wp2_with fail
   refine (byteX HI.out (k := 0) ⟨by decide, by decide⟩ (by rw [zeros_len]; have := HL.out; omega)).mono ?_;rintro e w1 ⟨rfl, h1⟩;rw [zeros_next] at h1;have H1 := Lib.hid h1;clear h1 HI;go_wp2_with fail
   go_roundw
   case rel => exact ⟨i + 1, by omega, rfl, H1⟩
   case measure => simp [intOf]; omega
  ·obtain rfl : i = c := by omega
   have ji : ¬ (i : Int) < (i : Int) := by omega
   go_wp2_with fail
   go_end0
   exact ⟨rfl, HI.out⟩
theorem flagX (h : Sx B kb im o en w0 s w) {b : Bool} (hl : s.1.length ≤ 274877906944) : Calls Tryz.prog 91 #[.pointer (some ⟨kb, 0, none⟩), .bool b] w fun e w' => e = .returned (.tuple #[]) ∧ Sx B kb im o en w0 (flagS b s) w' := by
 cases b with
 | true =>
  have HC := Lib.hid (byteX h (k := 1) ⟨by decide, by decide⟩ hl);clear h;go_enter Tryz.func91, Tryz.ntmps91
  go_wp2_with fail
  refine HC.out.mono ?_;rintro e w1 ⟨rfl, h1⟩;have H1 := Lib.hid h1;clear h1 HC;go_wp2_with fail
  refine bodyPost_ret (results_none rfl _ _ _) rfl ?_;exact ⟨rfl, H1.out⟩
 | false =>
  have HC := Lib.hid (byteX h (k := 0) ⟨by decide, by decide⟩ hl);clear h;go_enter Tryz.func91, Tryz.ntmps91
  go_wp2_with fail
  refine HC.out.mono ?_;rintro e w1 ⟨rfl, h1⟩;have H1 := Lib.hid h1;clear h1 HC;go_wp2_with fail
  go_end0
  exact ⟨rfl, H1.out⟩
theorem half_len (k : Int) (s : S) : (halfS k s).1.length = s.1.length + 2 := by simp [halfS, Pl.le_length]
theorem none_len (k : Int) (s : S) : (noneS k s).1.length = s.1.length + 2 := by simp [noneS, Pl.le_length]
theorem byte_len (k : Int) (s : S) : (byteS k s).1.length = s.1.length + 1 := by simp [byteS, Pl.le_length]
theorem flag_len (b : Bool) (s : S) : (flagS b s).1.length = s.1.length + 1 := by rw [flagS, byte_len]
theorem word_len (k : Int) (s : S) : (wordS k s).1.length = s.1.length + 4 := by simp [wordS, Pl.le_length]
theorem long_len (m : Nat) (s : S) : (longS m s).1.length = s.1.length + 8 := by simp [longS, Pl.le_length]
theorem field_len (b : Bool) (s : S) : (fieldS b s).1.length = s.1.length := rfl
theorem ask_len (b : Bool) (no : Int) (s : S) : (askS b no s).1.length = s.1.length := rfl
theorem bytes_len (ys : List Nat) (s : S) : (bytesS ys s).1.length = s.1.length + ys.length := by simp [bytesS]
theorem many_len (n : Nat) (s : S) : (manyS n s).1.length = s.1.length + 8 := by rw [manyS, zeros_len, half_len]
theorem manyX (h : Sx B kb im o en w0 s w) {n : Nat} (hn : n ≤ 9223372036854775807) (hl : s.1.length + 8 ≤ 274877906944) : Calls Tryz.prog 89 #[.pointer (some ⟨kb, 0, none⟩), .int .i64 (n : Int)] w fun e w' => e = .returned (.tuple #[]) ∧ Sx B kb im o en w0 (manyS n s) w' := by
 have HC := Lib.hid (halfX h (k := (n : Int)) ⟨by omega, by omega⟩ (by omega));have HL : Hid (s.1.length + 8 ≤ 274877906944) := hl;clear h hl;go_enter Tryz.func89, Tryz.ntmps89
 go_wp2_with fail
 refine HC.out.mono ?_;rintro e w1 ⟨rfl, h1⟩;have HC2 := Lib.hid (zerosX h1 (c := 6) (by rw [half_len]; have := HL.out; omega));clear h1 HC;go_wp2_with fail
 refine HC2.out.mono ?_;rintro e w2 ⟨rfl, h2⟩;have H2 := Lib.hid h2;clear h2 HC2;go_wp2_with fail
 go_end0
 exact ⟨rfl, H2.out⟩
theorem upB_upN {a al : Nat} (h0 : 0 < al) (ha : a + al ≤ 18446744073709551615) : U64.upB (a : Int) (al : Int) = (((upN a al : Nat) : Int), true) := by
 unfold U64.upB upN;rw [if_neg (show ¬ (al : Int) = 0 by omega)];have e : (a : Int) % (al : Int) = ((a % al : Nat) : Int) := by omega
 have hlt : a % al < al := Nat.mod_lt _ h0;rw [e]
 by_cases h : a % al = 0
 ·rw [if_pos (by omega), if_pos h]
 ·rw [if_neg (by omega), if_neg h];unfold U64.addB;rw [if_pos (by omega)];exact Prod.ext (by show _ = _; omega) rfl
theorem upX {a al : Nat} (h0 : 0 < al) (ha : a ≤ 1099511627776) (hal : al ≤ 4096) (w : World) : Calls Tryz.prog 98 #[.int .i64 (a : Int), .int .i64 (al : Int)] w fun e w' => e = .returned (.int .i64 ((upN a al : Nat) : Int)) ∧ w' = w := by
 have HU := Lib.hid (fun W => U64.up_any (a := (a : Int)) (al := (al : Int)) (by omega) (by omega) W);rw [upB_upN h0 (by omega)] at HU;have hu : upN a al ≤ 1099511631872 := by
  unfold upN;have := Nat.mod_lt a h0
  split <;> omega
 obtain ⟨u, hu2⟩ : ∃ u, upN a al = u := ⟨_, rfl⟩
 rw [hu2] at HU hu ⊢;clear hu2;have j1 : IntKind.u64.wrap (a : Int) = (a : Int) := by rw [IntKind.wrap_u64]; omega
 have j2 : IntKind.u64.wrap (al : Int) = (al : Int) := by rw [IntKind.wrap_u64]; omega
 have j3 : IntKind.i64.wrap (u : Int) = (u : Int) := by rw [IntKind.wrap_i64]; omega
 go_enter Tryz.func98, Tryz.ntmps98
 go_wp2_with fail
 refine (HU.out _).mono ?_;rintro e w1 ⟨rfl, hw⟩;subst hw;go_wp2_with fail
 go_ret
 exact ⟨rfl, rfl⟩
def begN (part end' : Nat) : Nat := upN end' (if part = 8 then 4096 else 8)
theorem beginX {p a : Nat} (ha : a ≤ 1099511627776) (w : World) : Calls Tryz.prog 57 #[.int .i64 (p : Int), .int .i64 (a : Int)] w fun e w' => e = .returned (.int .i64 ((begN p a : Nat) : Int)) ∧ w' = w := by
 by_cases hp : p = 8
 ·subst hp;have HU := Lib.hid (fun W => upX (a := a) (al := 4096) (by decide) ha (by decide) W);have e : begN 8 a = upN a 4096 := rfl;rw [e];clear e;go_enter Tryz.func57, Tryz.ntmps57
  go_wp2_with fail
  refine (HU.out _).mono ?_;rintro e w1 ⟨rfl, hw⟩;subst hw;go_wp2_with fail
  go_ret
  exact ⟨rfl, rfl⟩
 ·have HU := Lib.hid (fun W => upX (a := a) (al := 8) (by decide) ha (by decide) W);have e : begN p a = upN a 8 := by unfold begN; rw [if_neg hp]
  rw [e];clear e;have jp : ¬ (p : Int) = 8 := by omega
  go_enter Tryz.func57, Tryz.ntmps57
  go_wp2_with fail
  refine (HU.out _).mono ?_;rintro e w1 ⟨rfl, hw⟩;subst hw;go_wp2_with fail
  go_ret
  exact ⟨rfl, rfl⟩
end
end Go.Proofs.YtmfkggngjeolcaaGreatDoor
namespace Go.Proofs.YtmfkggngjeolcaaGreatDoor
open Go.RowKit Bn
def RowG {α : Type} (k : Nat) (enc : α → List Value) (w : World) (v : Value) (xs : List α) : Prop :=
 ∃ ao cap, v = .slice ao xs.length cap ∧ xs.length ≤ cap ∧ cap ≤ maxLen ∧ ∀ i (h : i < xs.length), ∃ b o, ao = some ⟨b, o, none⟩ ∧ b < w.heap.size ∧ ∀ j, j < k → w.cell? ⟨b, o + i * k + j, none⟩ = (enc xs[i])[j]?
theorem RowG.below {α : Type} {k : Nat} {enc : α → List Value} {w w' : World} {v : Value} {xs : List α} (h : RowG k enc w v xs) (hb : Below w.heap.size w w') : RowG k enc w' v xs := by
 obtain ⟨ao, cap, rfl, h1, h2, h3⟩ := h;refine ⟨ao, cap, rfl, h1, h2, fun i hi => ?_⟩;obtain ⟨b, o, rfl, hl, hc⟩ := h3 i hi;exact ⟨b, o, rfl, Nat.lt_of_lt_of_le hl hb.size, fun j hj => (World.cell?_of_block (a := ⟨b, o + i * k + j, none⟩) (hb.block b hl)).trans (hc j hj)⟩
def rgE (r : Rg) : List Value := [.int .u64 (r.1 : Int), .int .u64 (r.2 : Int)]
def tnE (x : Tn) : List Value := [.int .i64 x.cpu, .int .i64 x.root, .bool x.st, .int .i64 x.rule, .int .i64 x.to, .int .i64 x.vec]
def poE (r : Int) : List Value := [.int .i64 r]
def gdE (g : Gd) : List Value := [.int .u64 (g.ad : Int), .int .u64 (g.sz : Int), .int .u8 (g.fill : Int), .string g.txt]
def lkE (c : Lk) : List Value := [.int .i64 c.fr, .int .i64 c.to, .int .i64 c.eff, .int .i64 c.vec, .bool c.msk]
def stE (x : Int × Int) : List Value := [.int .i64 x.1, .int .i64 x.2]
def rgOk (r : Rg) : Prop := r.1 ≤ 18446744073709551615 ∧ r.2 ≤ 18446744073709551615
theorem each_len {α : Type} {f : α → S → S} {c : Nat} (hf : ∀ x s, (f x s).1.length = s.1.length + c) : ∀ (xs : List α) (s : S), (eachS f xs s).1.length = s.1.length + c * xs.length
 | [], s => rfl
 | x :: xs, s => by
  rw [eachS, each_len hf xs, hf, List.length_cons];rw [Nat.mul_add];omega
def stOk (x : Int × Int) : Prop := I64R x.1 ∧ I64R x.2
def tnOk (x : Tn) : Prop := I64R x.cpu ∧ I64R x.root ∧ I64R x.rule ∧ I64R x.to ∧ I64R x.vec
def lkOk (x : Lk) : Prop := I64R x.fr ∧ I64R x.to ∧ I64R x.eff ∧ I64R x.vec
def gdOk (x : Gd) : Prop := x.ad ≤ 18446744073709551615 ∧ x.sz ≤ 18446744073709551615 ∧ x.fill ≤ 255 ∧ x.txt.size ≤ 4000000
end Go.Proofs.YtmfkggngjeolcaaGreatDoor
