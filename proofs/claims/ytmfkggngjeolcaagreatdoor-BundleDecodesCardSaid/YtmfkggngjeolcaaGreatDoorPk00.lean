import Derived.WalkKit
import Derived.Laws.BitsAllLaws
import Derived.Test.YtmfkggngjeolcaaGreatDoorProg
import Derived.WalkSpells
import Derived.WalkLawsBesides
import Derived.Test.YtmfkggngjeolcaaGreatDoorCards
import Derived.Test.YtmfkggngjeolcaaGreatDoorTie
import Derived.ProofKit
import Derived.OpenShut
import Derived.ShutString
import Derived.ChangeOld
import Derived.Below
import Derived.Deep.DeepHandedRow
import Derived.Lib.LaidTab
set_option maxHeartbeats 1000000
namespace Go.Proofs.YtmfkggngjeolcaaGreatDoor
namespace Pl

def tab : List Nat := [0, 274646895, 549293790, 820201905, 1098587580, 1361435347, 1640403810, 1905808397, 2197175160, 2460548119, 2722870694, 2987750089, 3280807620, 3553878443, 3811616794, 4084100981]
def nib (r : Nat) : Nat := (r / 16) ^^^ (tab.getD (r % 16) 0)
def stepB (r z : Nat) : Nat := nib (nib (r ^^^ z))
def more (s : Nat) (zs : List Nat) : Nat := 4294967295 ^^^ zs.foldl stepB (4294967295 ^^^ s)
def crc (zs : List Nat) : Nat := more 0 zs

theorem xor_lt {a b : Nat} (ha : a < 4294967296) (hb : b < 4294967296) : a ^^^ b < 4294967296 := Nat.xor_lt_two_pow (n := 32) ha hb
theorem tab_lt (t : Nat) : tab.getD t 0 < 4294967296 := by
 by_cases h : t < 16
 ·have : ∀ t : Fin 16, tab.getD t.val 0 < 4294967296 := by decide
  exact this ⟨t, h⟩
 ·rw [List.getD_eq_getElem?_getD, List.getElem?_eq_none (by simp [tab]; omega)]; decide
theorem nib_lt {r : Nat} (h : r < 4294967296) : nib r < 4294967296 := xor_lt (by omega) (tab_lt _)
theorem stepB_lt {r z : Nat} (h : r < 4294967296) (hz : z < 256) : stepB r z < 4294967296 := nib_lt (nib_lt (xor_lt h (by omega)))
theorem fold_lt : ∀ (zs : List Nat) (r : Nat), r < 4294967296 → (∀ z ∈ zs, z < 256) → zs.foldl stepB r < 4294967296
 | [], _, h, _ => h
 | z :: zs, r, h, hz => fold_lt zs _ (stepB_lt h (hz z (by simp))) (fun y hy => hz y (by simp [hy]))
theorem more_lt {s : Nat} {zs : List Nat} (hs : s < 4294967296) (hz : ∀ z ∈ zs, z < 256) : more s zs < 4294967296 :=
 xor_lt (by decide) (fold_lt zs _ (xor_lt (by decide) hs) hz)
theorem fold_snoc (zs : List Nat) (k : Nat) (r : Nat) (h : k < zs.length) : (zs.take (k + 1)).foldl stepB r = stepB ((zs.take k).foldl stepB r) (zs.getD k 0) := by
 rw [List.take_succ_eq_append_getElem h, List.foldl_append, List.getD_eq_getElem?_getD, List.getElem?_eq_getElem h]; rfl
theorem mem_getD {zs : List Nat} {k : Nat} (hz : ∀ z ∈ zs, z < 256) : zs.getD k 0 < 256 := by
 by_cases h : k < zs.length
 ·rw [List.getD_eq_getElem?_getD, List.getElem?_eq_getElem h]; exact hz _ (List.getElem_mem h)
 ·rw [List.getD_eq_getElem?_getD, List.getElem?_eq_none (by omega)]; decide
end Pl
end Go.Proofs.YtmfkggngjeolcaaGreatDoor
namespace Go.Proofs.YtmfkggngjeolcaaGreatDoor
open Go.RowKit
def Tab (w : World) : Prop := ∀ i, i < 16 → w.cell? ⟨0, i, none⟩ = some (.int .u32 (Pl.tab.getD i 0 : Nat))
theorem not32 (r : Nat) (h : r < 4294967296) : bits .xor .u32 (IntKind.u32.max) (r : Int) = ((4294967295 ^^^ r : Nat) : Int) := by
 rw [show IntKind.u32.max = ((4294967295 : Nat) : Int) from by decide];exact u32_xor_nat 4294967295 r (by decide) h
theorem and15 (x : Nat) (h : x < 4294967296) : bits .and .u32 (x : Int) 15 = ((x % 16 : Nat) : Int) := by
 have := u32_and_nat x 15 h (by decide);rw [nat_mask4] at this;exact this
theorem nib_facts (w : World) (ht : Tab w) (x : Nat) (hx : x < 4294967296) : ∃ t c y q : Nat, t < 16 ∧ y < 4294967296 ∧ bits .and .u32 (x : Int) 15 = (t : Int) ∧ w.cell? ⟨0, t, none⟩ = some (.int .u32 c) ∧ (x : Int) / 16 = (q : Int) ∧ bits .xor .u32 (q : Int) (c : Int) = (y : Int) ∧ Hid (Pl.nib x = y) :=
 ⟨x % 16, Pl.tab.getD (x % 16) 0, Pl.nib x, x / 16, Nat.mod_lt _ (by decide), Pl.nib_lt hx, and15 x hx, ht _ (Nat.mod_lt _ (by decide)), by omega, u32_xor_nat _ _ (by omega) (Pl.tab_lt _), rfl⟩
theorem more_some (s : Nat) (b o cap : Nat) (zs : List Nat) (w : World) (ht : Tab w) (hs : s < 4294967296) (hz : ∀ z ∈ zs, z < 256) (hc : zs.length ≤ cap) (hm : cap ≤ maxLen)
  (hcell : ∀ i, i < zs.length → w.cell? ⟨b, o + i, none⟩ = some (.int .u8 (zs.getD i 0 : Nat))) :
  Calls Tryz.prog 103 #[.int .u32 s, .slice (some ⟨b, o, none⟩) zs.length cap] w fun e w' => e = .returned (.int .u32 (Pl.more s zs : Nat)) ∧ w' = w := by
 unfold maxLen at hm;have hn := not32 s hs;obtain ⟨r0, hr0⟩ : ∃ r0, 4294967295 ^^^ s = r0 := ⟨_, rfl⟩
 rw [hr0] at hn;have hr0lt : r0 < 4294967296 := by rw [← hr0]; exact Pl.xor_lt (by decide) hs
 have HR : Hid (4294967295 ^^^ s = r0) := hr0;have HT : Hid (Tab w) := ht;have HC : Hid (∀ i, i < zs.length → w.cell? ⟨b, o + i, none⟩ = some (.int .u8 (zs.getD i 0 : Nat))) := hcell;have HZ : Hid (∀ z ∈ zs, z < 256) := hz;clear hr0 ht hcell hz;go_enter Tryz.func103, Tryz.ntmps103
 go_wp2
 go_loop [5, 7, 12] (fun r _ i => ∃ k : Nat, k ≤ zs.length ∧ i = .int .i64 k ∧ r = .int .u32 (((zs.take k).foldl Pl.stepB r0 : Nat) : Int)) (fun _ _ i => zs.length - (intOf i).toNat)
 case atStart => exact ⟨0, Nat.zero_le _, rfl, rfl⟩
 case round =>
  obtain ⟨k, hk, rfl, rfl⟩ := hrel;have hlt0 := Pl.fold_lt (zs.take k) r0 hr0lt (fun z hz => HZ.out z (List.mem_of_mem_take hz))
  by_cases hlt : k < zs.length
  ·have hsn := Pl.fold_snoc zs k r0 hlt;have hzk := Pl.mem_getD (k := k) HZ.out;have hck := HC.out k hlt;generalize hg : (zs.take k).foldl Pl.stepB r0 = r at *;generalize hg2 : zs.getD k 0 = z at *;have HS : Hid ((zs.take (k + 1)).foldl Pl.stepB r0 = Pl.stepB r z) := hsn;clear hsn hg hg2;have hx0 := u32_xor_nat r z hlt0 (by omega);obtain ⟨x, hx⟩ : ∃ x, r ^^^ z = x := ⟨_, rfl⟩
   have hxl : x < 4294967296 := by rw [← hx]; exact Pl.xor_lt hlt0 (by omega)
   rw [hx] at hx0;have HX : Hid (r ^^^ z = x) := hx;clear hx;obtain ⟨t, c, y, q, ht1, hy1, f1, f2, f3, f4, HN1⟩ := nib_facts w HT.out x hxl;obtain ⟨t2, c2, y2, q2, ht2, hy2, g1, g2, g3, g4, HN2⟩ := nib_facts w HT.out y hy1;go_wp2
   go_round
   case rel => exact ⟨k + 1, by omega, by go_num, by rw [HS.out, Pl.stepB, HX.out, HN1.out, HN2.out]⟩
   case measure => simp [intOf]; omega
  ·obtain rfl : k = zs.length := by omega
   have hn2 := not32 _ hlt0;rw [List.take_length] at hn2 hlt0 ⊢;have HF : Hid (Pl.more s zs = 4294967295 ^^^ zs.foldl Pl.stepB r0) := by rw [← HR.out]; rfl
   generalize zs.foldl Pl.stepB r0 = r at *;generalize 4294967295 ^^^ r = y at *;go_wp2
   go_ret
   exact ⟨by rw [HF.out]; rfl, rfl⟩
theorem more_none (s : Nat) (ao : Option Addr) (cap : Nat) (w : World) (hs : s < 4294967296) :
  Calls Tryz.prog 103 #[.int .u32 s, .slice ao 0 cap] w fun e w' => e = .returned (.int .u32 (Pl.more s [] : Nat)) ∧ w' = w := by
 have hn := not32 s hs;obtain ⟨r0, hr0⟩ : ∃ r0, 4294967295 ^^^ s = r0 := ⟨_, rfl⟩
 rw [hr0] at hn;have hr0lt : r0 < 4294967296 := by rw [← hr0]; exact Pl.xor_lt (by decide) hs
 have HF : Hid (Pl.more s [] = 4294967295 ^^^ r0) := by rw [← hr0]; rfl
 have hn2 := not32 r0 hr0lt;generalize 4294967295 ^^^ r0 = y at *;clear hr0;go_enter Tryz.func103, Tryz.ntmps103
 go_wp2
 go_loop [5, 7, 12] (fun r _ i => i = .int .i64 0 ∧ r = .int .u32 (r0 : Nat)) (fun _ _ i => 0)
 case atStart => exact ⟨rfl, rfl⟩
 case round =>
  obtain ⟨rfl, rfl⟩ := hrel;go_wp2
  go_ret
  exact ⟨by rw [HF.out]; rfl, rfl⟩
def Sl (w : World) (v : Value) (zs : List Nat) : Prop :=
 ∃ ao cap, v = .slice ao zs.length cap ∧ zs.length ≤ cap ∧ cap ≤ maxLen ∧ (∀ z ∈ zs, z < 256) ∧ (ao = none → cap = 0) ∧ ∀ i, i < zs.length → ∃ b o, ao = some ⟨b, o, none⟩ ∧ w.cell? ⟨b, o + i, none⟩ = some (.int .u8 (zs.getD i 0 : Nat))
theorem Sl.pos {w : World} {v : Value} {zs : List Nat} (h : Sl w v zs) (hp : 0 < zs.length) : ∃ b o cap, v = .slice (some ⟨b, o, none⟩) zs.length cap ∧ zs.length ≤ cap ∧ cap ≤ maxLen ∧ (∀ z ∈ zs, z < 256) ∧ ∀ i, i < zs.length → w.cell? ⟨b, o + i, none⟩ = some (.int .u8 (zs.getD i 0 : Nat)) := by
 obtain ⟨ao, cap, rfl, h1, h2, h3, h4, h5⟩ := h;obtain ⟨b, o, rfl, _⟩ := h5 0 hp;refine ⟨b, o, cap, rfl, h1, h2, h3, fun i hi => ?_⟩;obtain ⟨b', o', e, hc⟩ := h5 i hi
 cases e
 exact hc
theorem more_any {s : Nat} {v : Value} {zs : List Nat} {w : World} (ht : Tab w) (hs : s < 4294967296) (hv : Sl w v zs) :
  Calls Tryz.prog 103 #[.int .u32 s, v] w fun e w' => e = .returned (.int .u32 (Pl.more s zs : Nat)) ∧ w' = w := by
 by_cases hp : 0 < zs.length
 ·obtain ⟨b, o, cap, rfl, h1, h2, h3, h4⟩ := hv.pos hp;exact more_some s b o cap zs w ht hs h3 h1 h2 h4
 ·obtain rfl : zs = [] := List.eq_nil_of_length_eq_zero (by omega);obtain ⟨ao, cap, rfl, h1, h2, h3, h4, h5⟩ := hv;exact more_none s ao cap w hs
theorem crc_any {v : Value} {zs : List Nat} {w : World} (ht : Tab w) (hv : Sl w v zs) :
  Calls Tryz.prog 63 #[v] w fun e w' => e = .returned (.int .u32 (Pl.crc zs : Nat)) ∧ w' = w := by
 have c := more_any (s := 0) ht (by decide) hv;have HC : Hid (Calls Tryz.prog 103 #[.int .u32 ((0 : Nat) : Int), v] w fun e w' => e = .returned (.int .u32 (Pl.more 0 zs : Nat)) ∧ w' = w) := c;clear c ht;obtain ⟨ao, cap, rfl, _⟩ := hv;go_enter Tryz.func63, Tryz.ntmps63
 go_wp2_with fail
 refine (show Calls Tryz.prog 103 #[.int .u32 0, .slice ao zs.length cap] w fun e w' => e = .returned (.int .u32 (Pl.more 0 zs : Nat)) ∧ w' = w from HC.out).mono ?_;rintro e w' ⟨rfl, rfl⟩;go_wp2
 go_ret
 exact ⟨rfl, rfl⟩
end Go.Proofs.YtmfkggngjeolcaaGreatDoor
namespace Go.Proofs.YtmfkggngjeolcaaGreatDoor
open Go.ChangeShapes Go.WideShapes Go.ChangeAt Go.RowKit
theorem ownKnobs : ownKnob Tryz.prog.godebug = none := by kernel_rfl
theorem laidOut : laidOutB Tryz.prog = true := by kernel_rfl
theorem gTab : Tryz.prog.globalNamed "bulkhead/word.fourBits" = some 0 := by kernel_rfl
theorem gTabType : (Tryz.prog.globals[0]?).map (·.type) = some 167 := by kernel_rfl
theorem cellsTab : Tryz.prog.cellsOf 167 = 16 := by kernel_rfl
theorem cellsWord : Tryz.prog.cellsOf 86 = 1 := by kernel_rfl
theorem tab_of {W : World} (h : laidMetH Tryz.prog [("bulkhead/word.fourBits", Rows.laid_bulkhead_word_fourBits)] W) : Tab W := by
 have t : Lib.TabIs Tryz.prog W "bulkhead/word.fourBits" .u32 (Pl.tab.map fun (n : Nat) => (n : Int)) :=
  Lib.tabIs_of_head (rest := []) gTab gTabType Tryz.underlying167 Tryz.underlying86 cellsWord cellsTab h
 intro i hi;have e : (Pl.tab.map fun (n : Nat) => (n : Int)).getD i 0 = ((Pl.tab.getD i 0 : Nat) : Int) := by
  rw [List.getD_eq_getElem?_getD, List.getElem?_map, List.getD_eq_getElem?_getD, List.getElem?_eq_getElem (by simpa [Pl.tab] using hi)]
  rfl
 have c := t.cell gTab i (by simpa [Pl.tab] using hi)
 first
 | exact c.trans (by rw [← e]; rfl)
 | (rw [← e]; simpa using c)
noncomputable def laidWorld (os : Os) : World :=
 { World.holding Tryz.prog os ⟨#[], #[], []⟩ with heap := (World.holding Tryz.prog os ⟨#[], #[], []⟩).heap.modify 0 fun
   | .cells _ t frozen => .cells #[.int .u32 0, .int .u32 274646895, .int .u32 549293790, .int .u32 820201905, .int .u32 1098587580, .int .u32 1361435347, .int .u32 1640403810, .int .u32 1905808397, .int .u32 2197175160, .int .u32 2460548119, .int .u32 2722870694, .int .u32 2987750089, .int .u32 3280807620, .int .u32 3553878443, .int .u32 3811616794, .int .u32 4084100981] t frozen
   | o => o }
end Go.Proofs.YtmfkggngjeolcaaGreatDoor
