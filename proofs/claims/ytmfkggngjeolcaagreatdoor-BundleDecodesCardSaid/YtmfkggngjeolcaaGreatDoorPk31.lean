import Derived.Test.YtmfkggngjeolcaaGreatDoorPk30
import Derived.Test.YtmfkggngjeolcaaGreatDoorPk24
import Derived.Test.YtmfkggngjeolcaaGreatDoorPk25
import Derived.Test.YtmfkggngjeolcaaGreatDoorPk07
set_option linter.unusedSimpArgs false
set_option linter.unusedVariables false
set_option maxHeartbeats 2000000
set_option maxRecDepth 100000
namespace Go.Proofs.YtmfkggngjeolcaaGreatDoor
open Go.RowKit Bn Ek
namespace Ek
def begD (k a : Nat) : Nat := if k = 7 then Bn.upN (Bn.upN a 8) 4096 else Bn.upN a 8
theorem begD_le (k a : Nat) : begD k a ≤ a + 4102 ∧ a ≤ begD k a := by
 unfold begD Bn.upN
 split <;> (repeat' split) <;> omega
def ntE (n : Nat) : List Value := [.int .i64 (n : Int)]
theorem nt_ok : EncOk 1 ntE := ⟨fun _ => rfl, fun x u hu => by simp [ntE] at hu; rcases hu with rfl | rfl <;> rfl⟩
end Ek
theorem kup8 {a : Nat} (ha : a ≤ 4611686018427387904) (w : World) : Calls Tryz.prog 83 #[.int .i64 (a : Int), .int .i64 8] w fun e w' => e = .returned (.int .i64 (Bn.upN a 8 : Nat)) ∧ w' = w := by
 have h1 : IntKind.i64.wrap ((a : Int) + 8) = ((a + 8 : Nat) : Int) := by rw [IntKind.wrap_i64]; omega
 have h2 : IntKind.i64.wrap (((a + 8 : Nat) : Int) - 1) = ((a + 7 : Nat) : Int) := by rw [IntKind.wrap_i64]; omega
 have h3 : Int.tdiv ((a + 7 : Nat) : Int) 8 = (((a + 7) / 8 : Nat) : Int) := rfl;have hq : (a + 7) / 8 * 8 = Bn.upN a 8 := by unfold Bn.upN; split <;> omega
 obtain ⟨q, hq1⟩ : ∃ q, (a + 7) / 8 = q := ⟨_, rfl⟩
 rw [hq1] at h3 hq;have hql : q ≤ 4611686018427387904 := by omega
 have h5 : IntKind.i64.wrap (q : Int) = (q : Int) := by rw [IntKind.wrap_i64]; omega
 have h4 : IntKind.i64.wrap ((q : Int) * 8) = ((Bn.upN a 8 : Nat) : Int) := by rw [← hq, IntKind.wrap_i64]; omega
 generalize Bn.upN a 8 = u at *;generalize a + 7 = a7 at *;generalize a + 8 = a8 at *;clear hq hq1 hql ha;go_enter Tryz.func83, Tryz.ntmps83
 go_wp2
 go_ret
 exact ⟨rfl, rfl⟩
theorem kup4 {a : Nat} (ha : a ≤ 4611686018427387904) (w : World) : Calls Tryz.prog 83 #[.int .i64 (a : Int), .int .i64 4096] w fun e w' => e = .returned (.int .i64 (Bn.upN a 4096 : Nat)) ∧ w' = w := by
 have h1 : IntKind.i64.wrap ((a : Int) + 4096) = ((a + 4096 : Nat) : Int) := by rw [IntKind.wrap_i64]; omega
 have h2 : IntKind.i64.wrap (((a + 4096 : Nat) : Int) - 1) = ((a + 4095 : Nat) : Int) := by rw [IntKind.wrap_i64]; omega
 have h3 : Int.tdiv ((a + 4095 : Nat) : Int) 4096 = (((a + 4095) / 4096 : Nat) : Int) := rfl;have hq : (a + 4095) / 4096 * 4096 = Bn.upN a 4096 := by unfold Bn.upN; split <;> omega
 obtain ⟨q, hq1⟩ : ∃ q, (a + 4095) / 4096 = q := ⟨_, rfl⟩
 rw [hq1] at h3 hq;have hql : q ≤ 4611686018427387904 := by omega
 have h5 : IntKind.i64.wrap (q : Int) = (q : Int) := by rw [IntKind.wrap_i64]; omega
 have h4 : IntKind.i64.wrap ((q : Int) * 4096) = ((Bn.upN a 4096 : Nat) : Int) := by rw [← hq, IntKind.wrap_i64]; omega
 generalize Bn.upN a 4096 = u at *;generalize a + 4095 = a7 at *;generalize a + 4096 = a8 at *;clear hq hq1 hql ha;go_enter Tryz.func83, Tryz.ntmps83
 go_wp2
 go_ret
 exact ⟨rfl, rfl⟩
end Go.Proofs.YtmfkggngjeolcaaGreatDoor
namespace Go.Proofs.YtmfkggngjeolcaaGreatDoor
open Bn Dc
namespace Dd
def headF (bs : List Nat) : Int × Int :=
 if bs.take 8 ≠ mg then (130, 0) else
 if Pl.num 2 (bs.drop 8) ≠ 1 then (131, 8) else
 if Pl.num 2 (bs.drop 10) ≠ 8 then (5, 10) else
 if Pl.num 4 (bs.drop 152) ≠ Pl.crc (bs.take 152) then (11, 152) else
 if Pl.num 4 (bs.drop 156) ≠ 0 then (5, 156) else
 if 1024 < Pl.num 4 (bs.drop 12) then (4, 12) else
 if bs.length < Pl.num 4 (bs.drop 12) * 4096 then (10, (bs.length : Int)) else
 if Pl.num 4 (bs.drop 12) * 4096 < bs.length then (12, ((Pl.num 4 (bs.drop 12) * 4096 : Nat) : Int)) else
 if Pl.num 8 (bs.drop 16) % 4096 ≠ 0 then (132, 16) else (0, 0)
def entN (bs : List Nat) (j : Nat) : En := ⟨Pl.num 2 (bs.drop (24 + 16 * j)), Pl.num 2 (bs.drop (26 + 16 * j)), Pl.num 4 (bs.drop (28 + 16 * j)), Pl.num 4 (bs.drop (32 + 16 * j)), Pl.num 4 (bs.drop (36 + 16 * j))⟩
def nextF (bs : List Nat) : Nat → Nat
 | 0 => 160
 | j + 1 => (entN bs j).f + (entN bs j).l
def okF (bs : List Nat) (j : Nat) : Prop := (entN bs j).a = j + 1 ∧ (entN bs j).b = 0 ∧ (entN bs j).f = Ek.begD j (nextF bs j) ∧ (entN bs j).f + (entN bs j).l ≤ bs.length ∧ (j = 7 → (entN bs j).f + (entN bs j).l = bs.length)
theorem beg_same (j a : Nat) : Ek.begD j a = begN (j + 1) a := by
 unfold Ek.begD begN
 by_cases h : j = 7
 ·subst h;simp only [if_true];unfold Bn.upN
  repeat' split
  all_goals first | rfl | omega
 ·rw [if_neg h, if_neg (by omega)]
theorem take_hq {bs : List Nat} (h : 160 ≤ bs.length) {a k : Nat} (ha : a + k ≤ 160) : takeD (hq bs) k ⟨a, 0, 0, 0, 0⟩ = (Pl.num k (bs.drop a), ⟨a + k, 0, 0, 0, 0⟩) := by
 have hl : (hq bs).Z.length = 160 := by
  show ((bs.drop 0).take 160).length = 160
  rw [List.length_take, List.length_drop];omega
 have hf : Fit (hq bs) ⟨bs, 160⟩ := ⟨by rw [hl]; rfl, by rw [hl]; rfl⟩
 unfold takeD;simp only [if_true];rw [if_pos (by rw [hl]; exact ha), ← num_cut hf (by rw [hl]; exact ha)];rw [show (hq bs).fi = 0 from rfl, Nat.zero_add]
theorem ent_hq {bs : List Nat} (h : 160 ≤ bs.length) {j : Nat} (hj : j < 8) : entD (hq bs) ⟨24 + 16 * j, 0, 0, 0, 0⟩ = (entN bs j, ⟨24 + 16 * (j + 1), 0, 0, 0, 0⟩) := by
 unfold entD;simp only;rw [take_hq h (by omega)];simp only;rw [take_hq h (by omega)];simp only;rw [take_hq h (by omega)];simp only;rw [take_hq h (by omega)];simp only;rw [take_hq h (by omega)];unfold entN;simp only [show 24 + 16 * j + 2 = 26 + 16 * j by omega, show 26 + 16 * j + 2 = 28 + 16 * j by omega, show 28 + 16 * j + 4 = 32 + 16 * j by omega, show 32 + 16 * j + 4 = 36 + 16 * j by omega, show 36 + 16 * j + 4 = 24 + 16 * (j + 1) by omega]
theorem ents_hq {bs : List Nat} (h : 160 ≤ bs.length) : ∀ j, j ≤ 8 → entS (hq bs) ⟨24, 0, 0, 0, 0⟩ j = ⟨24 + 16 * j, 0, 0, 0, 0⟩
 | 0, _ => rfl
 | j + 1, hj => by rw [entS, ents_hq h j (by omega), ent_hq h (by omega)]
theorem hd0_eq {bs : List Nat} (h : 160 ≤ bs.length) : (hd0 bs).x = ⟨bs.take 8, Pl.num 2 (bs.drop 8), Pl.num 2 (bs.drop 10), Pl.num 4 (bs.drop 12), Pl.num 8 (bs.drop 16), Pl.num 4 (bs.drop 152), Pl.num 4 (bs.drop 156)⟩ ∧ (∀ j, j < 8 → (hd0 bs).E (j + 1) = entN bs j) ∧ (hd0 bs).s = ⟨160, 0, 0, 0, 0⟩ := by
 have hl : (hq bs).Z.length = 160 := by
  show ((bs.drop 0).take 160).length = 160
  rw [List.length_take, List.length_drop];omega
 have hb : bytesD (hq bs) 8 ⟨0, 0, 0, 0, 0⟩ = (bs.take 8, ⟨8, 0, 0, 0, 0⟩) := by
  unfold bytesD;simp only [if_true];rw [if_pos (by rw [hl]; decide)]
  congr 1
  show (((bs.drop 0).take 160).drop 0).take 8 = _
  rw [List.drop_zero, List.drop_zero, List.take_take]
  rfl
 unfold hd0 hdD;simp only [hb];rw [take_hq h (by decide)]
 try simp only
 rw [take_hq h (by decide)]
 try simp only
 rw [take_hq h (by decide)]
 try simp only
 rw [take_hq h (by decide)]
 try simp only
 rw [ents_hq h 8 (by decide)]
 try simp only
 rw [take_hq h (by decide)]
 try simp only
 rw [take_hq h (by decide)];refine ⟨rfl, fun j hj => ?_, rfl⟩
 show (entD (hq bs) (entS (hq bs) ⟨24, 0, 0, 0, 0⟩ j)).1 = _
 rw [ents_hq h j (by omega), ent_hq h hj]
theorem ask_no {b : Bool} {no sec ad : Int} {s : D} (h : b = true) : askD b no sec ad s = s := by
 unfold askD;rw [if_neg (by rw [h]; rintro ⟨e, _⟩; cases e)]
theorem ask_yes {b : Bool} {no sec ad : Int} {s : D} (h : b = false) (hw : s.why = 0) : askD b no sec ad s = ⟨s.pos, s.rw, no, sec, ad⟩ := by
 unfold askD;rw [if_pos ⟨h, hw⟩]
theorem asks_eq {bs : List Nat} {x : Hd} (hx : x = ⟨bs.take 8, Pl.num 2 (bs.drop 8), Pl.num 2 (bs.drop 10), Pl.num 4 (bs.drop 12), Pl.num 8 (bs.drop 16), Pl.num 4 (bs.drop 152), Pl.num 4 (bs.drop 156)⟩) : asksD bs x ⟨160, 0, 0, 0, 0⟩ = ⟨160, 0, (headF bs).1, 0, (headF bs).2⟩ := by
 subst hx;unfold asksD headF askD
 by_cases h1 : bs.take 8 = mg
 ·by_cases h2 : Pl.num 2 (bs.drop 8) = 1
  ·by_cases h3 : Pl.num 2 (bs.drop 10) = 8
   ·by_cases h4 : Pl.num 4 (bs.drop 152) = Pl.crc (bs.take 152)
    ·by_cases h5 : Pl.num 4 (bs.drop 156) = 0
     ·by_cases h6 : 1024 < Pl.num 4 (bs.drop 12)
      ·have h6' := Nat.not_le.2 h6;simp [h1, h2, h3, h4, h5, h6, h6']
      ·have h6' := Nat.not_lt.1 h6
       by_cases h7 : bs.length < Pl.num 4 (bs.drop 12) * 4096
       ·have h7' := Nat.not_le.2 h7;simp [h1, h2, h3, h4, h5, h6, h6', h7, h7']
       ·have h7' := Nat.not_lt.1 h7
        by_cases h8 : Pl.num 4 (bs.drop 12) * 4096 < bs.length
        ·have h8' := Nat.not_le.2 h8;simp [h1, h2, h3, h4, h5, h6, h6', h7, h7', h8, h8']
        ·have h8' := Nat.not_lt.1 h8
         by_cases h9 : Pl.num 8 (bs.drop 16) % 4096 = 0
         ·simp [h1, h2, h3, h4, h5, h6, h6', h7, h7', h8, h8', h9]
         ·simp [h1, h2, h3, h4, h5, h6, h6', h7, h7', h8, h8', h9]
     ·simp [h1, h2, h3, h4, h5]
    ·simp [h1, h2, h3, h4]
   ·simp [h1, h2, h3]
  ·simp [h1, h2]
 ·simp [h1]
def secR (k : Nat) (p : Q) (J : Im) (s : R) : Im × R :=
 match k with
 | 1 => ({ J with rams := (busR p s).1.rams, devs := (busR p s).1.devs }, (busR p s).2)
 | 2 => ({ J with subs := (listR (tenR p) (manyR p s).1 (manyR p s).2).1 }, (listR (tenR p) (manyR p s).1 (manyR p s).2).2)
 | 3 => ({ J with ports := (portsR p J.devs.length s).1 }, (portsR p J.devs.length s).2)
 | 4 => ({ J with regs := (listR (gdR p) (manyR p s).1 (manyR p s).2).1 }, (listR (gdR p) (manyR p s).1 (manyR p s).2).2)
 | 5 => ({ J with chs := (listR (chR p) (manyR p s).1 (manyR p s).2).1 }, (listR (chR p) (manyR p s).1 (manyR p s).2).2)
 | 6 => ({ J with irqs := (listR (iqR p) (manyR p s).1 (manyR p s).2).1 }, (listR (iqR p) (manyR p s).1 (manyR p s).2).2)
 | 7 => ({ J with plans := (plansR p s).1.plans, master := (plansR p s).1.master, start := ((plansR p s).1.start : Int) }, (plansR p s).2)
 | _ => ({ J with tabs := (tabsR p s).1 }, (tabsR p s).2)
def pOf (bs : List Nat) (j : Nat) : Q := ⟨bs, (entN bs j).f + (entN bs j).l⟩
def prJ (bs : List Nat) : Nat → Im
 | 0 => { zeroI with base := Pl.num 8 (bs.drop 16) }
 | j + 1 => (secR (j + 1) (pOf bs j) (prJ bs j) ⟨(entN bs j).f, -1⟩).1
def endR (p : Q) (r : R) : R := if r.bad < 0 ∧ r.ps < p.en then ⟨r.ps, (r.ps : Int)⟩ else r
def prE (bs : List Nat) (j : Nat) : R := endR (pOf bs j) (secR (j + 1) (pOf bs j) (prJ bs j) ⟨(entN bs j).f, -1⟩).2
theorem sec_rel {q : Pt} {p : Q} {s : D} {r : R} (hf : Fit q p) (k : Nat) (J : Im) (h : Rel q s r) (hg : goD s = true) (hp : s.pos = 0) : Rel q (secD k q J s).2 (secR k p J r).2 ∧ (goD (secD k q J s).2 = true → (secD k q J s).1 = (secR k p J r).1) := by
 match k with
 | 1 => exact ⟨(bus_rel hf h).1, fun e => by show ({ J with rams := _, devs := _ } : Im) = { J with rams := _, devs := _ }; rw [(bus_rel hf h).2 e]⟩
 | 2 => exact ⟨(rows_rel hf (fun s r h => ten_rel hf h) (fun s h => ten_mono h) h).1, fun e => by show ({ J with subs := _ } : Im) = { J with subs := _ }; rw [(rows_rel hf (fun s r h => ten_rel hf h) (fun s h => ten_mono h) h).2 e]⟩
 | 3 => exact ⟨(ports_rel hf h hp).1, fun e => by show ({ J with ports := _ } : Im) = { J with ports := _ }; rw [(ports_rel hf h hp).2 e]⟩
 | 4 => exact ⟨(gds_rel hf h hp).1, fun e => by show ({ J with regs := _ } : Im) = { J with regs := _ }; rw [(gds_rel hf h hp).2 e]⟩
 | 5 => exact ⟨(rows_rel hf (fun s r h => ch_rel hf h) (fun s h => ch_mono h) h).1, fun e => by show ({ J with chs := _ } : Im) = { J with chs := _ }; rw [(rows_rel hf (fun s r h => ch_rel hf h) (fun s h => ch_mono h) h).2 e]⟩
 | 6 => exact ⟨(rows_rel hf (fun s r h => iq_rel hf h) (fun s h => iq_mono h) h).1, fun e => by show ({ J with irqs := _ } : Im) = { J with irqs := _ }; rw [(rows_rel hf (fun s r h => iq_rel hf h) (fun s h => iq_mono h) h).2 e]⟩
 | 7 => exact ⟨(plans_rel hf h).1, fun e => by show ({ J with plans := _, master := _, start := _ } : Im) = { J with plans := _, master := _, start := _ }; rw [(plans_rel hf h).2 e]⟩
 | 0 => exact ⟨(tabs_rel hf h hg).1, fun e => by show ({ J with tabs := _ } : Im) = { J with tabs := _ }; rw [(tabs_rel hf h hg).2 e]⟩
 | k + 8 => exact ⟨(tabs_rel hf h hg).1, fun e => by show ({ J with tabs := _ } : Im) = { J with tabs := _ }; rw [(tabs_rel hf h hg).2 e]⟩
theorem end_rel {q : Pt} {p : Q} {s : D} {r : R} (hf : Fit q p) (h : Rel q s r) : ((endD q s).why = 0 ∧ goD s = true ∧ (endR p r).bad < 0) ∨ ((endD q s).why = 5 ∧ (endD q s).sec = (q.pt : Int) ∧ (endR p r).bad = (endD q s).ad ∧ 0 ≤ (endR p r).bad) := by
 unfold endD formD endR;rcases h with ⟨k1, k2, k3, k4, k5⟩ | ⟨k1, k2, k3⟩ | ⟨k1, k2, k3, k4⟩
 ·by_cases e : s.pos = q.Z.length
  ·rw [ask_no (by simp [k2, e]), if_neg (by rw [hf.e]; omega)];exact .inl ⟨k1, by simp [goD, k1, k2], by omega⟩
  ·rw [ask_yes (by simp [k2, e]) k1, if_pos ⟨by omega, by rw [hf.e]; omega⟩];exact .inr ⟨rfl, rfl, by show (r.ps : Int) = ((q.fi + s.pos : Nat) : Int); omega, by show (0 : Int) ≤ (r.ps : Int); omega⟩
 ·rw [ask_yes (by simp [k2]) k1, if_neg (by omega)];exact .inr ⟨rfl, rfl, k3, by omega⟩
 ·rw [ask_why (by omega), if_neg (by omega)];exact .inr ⟨k1, k2, k3, k4⟩
theorem n5 : (5 : Int) ≠ 0 := by decide
theorem n11 : (11 : Int) ≠ 0 := by decide
theorem dir_eq {bs : List Nat} {s : D} (h160 : 160 ≤ bs.length) (hs : s.why = 0) : ∀ j, j ≤ 8 → (∀ i, i < j → okF bs i) → dirS (hd0 bs).E bs.length j s = s ∧ (j ≤ 7 → endN (hd0 bs).E bs.length j = nextF bs j)
 | 0, _, _ => ⟨rfl, fun _ => rfl⟩
 | j + 1, hj, hok => by
  obtain ⟨e1, e2⟩ := dir_eq h160 hs j (by omega) (fun i hi => hok i (by omega));obtain ⟨o1, o2, o3, o4, o5⟩ := hok j (by omega);have hE := (hd0_eq h160).2.1 j (by omega);have e2 := e2 (by omega);have hb : begN (j + 1) (endN (hd0 bs).E bs.length j) = (entN bs j).f := by rw [e2, ← beg_same, o3]
  refine ⟨?_, fun hj7 => ?_⟩
  ·rw [dirS, e1];refine ask_no ?_;unfold okD;rw [hE, show j + 1 - 1 = j from rfl, hb, endN, hb, hE, Bool.and_eq_true, decide_eq_true_eq, decide_eq_true_eq];refine ⟨⟨o1, o2, rfl, fun e => o5 (by omega)⟩, ?_⟩
   split
   ·exact Nat.le_refl _
   ·exact o4
  ·rw [endN, if_neg (by omega), hb, hE]
   rfl
theorem dir_no {bs : List Nat} {s : D} (h160 : 160 ≤ bs.length) (hs : s.why = 0) {j : Nat} (hj : j < 8) (hok : ∀ i, i < j → okF bs i) (hn : ¬ okF bs j) : dirS (hd0 bs).E bs.length 8 s = ⟨s.pos, s.rw, 5, 0, ((24 + 16 * j : Nat) : Int)⟩ := by
 obtain ⟨e1, e2⟩ := dir_eq h160 hs j (by omega) hok;have hE := (hd0_eq h160).2.1 j hj;have e2 := e2 (by omega);have hb : begN (j + 1) (endN (hd0 bs).E bs.length j) = Ek.begD j (nextF bs j) := by rw [e2, ← beg_same]
 have : dirS (hd0 bs).E bs.length (j + 1) s = ⟨s.pos, s.rw, 5, 0, ((24 + 16 * j : Nat) : Int)⟩ := by
  rw [dirS, e1];refine ask_yes ?_ hs;rw [Bool.eq_false_iff];intro ho;unfold okD at ho;rw [hE, show j + 1 - 1 = j from rfl, hb, endN, hb, hE, Bool.and_eq_true, decide_eq_true_eq, decide_eq_true_eq] at ho;obtain ⟨⟨o1, o2, o3, o4⟩, o5⟩ := ho;refine hn ⟨o1, o2, o3, ?_, fun e => o4 (by omega)⟩
  by_cases e : j = 7
  ·have := o4 (by omega);omega
  ·rw [if_neg e] at o5;omega
 rw [dirS_stop (k := j + 1) (by rw [this]; exact n5) 8 (by omega), this]
def sealF (bs : List Nat) (j : Nat) : Prop := (∀ e, nextF bs j ≤ e → e < (entN bs j).f → bs.getD e 0 = 0) ∧ Pl.crc ((bs.drop (entN bs j).f).take (entN bs j).l) = (entN bs j).c
theorem zs_eq {bs : List Nat} {k e0 : Nat} {s : D} : ∀ n, (∀ e, e0 ≤ e → e < e0 + n → bs.getD e 0 = 0) → zsS bs k e0 n s = s
 | 0, _ => rfl
 | n + 1, h => by
  rw [zsS, zs_eq n (fun e h1 h2 => h e h1 (by omega))];exact ask_no (decide_eq_true (h _ (by omega) (by omega)))
theorem zs_no {bs : List Nat} {k e0 : Nat} {s : D} (hs : s.why = 0) {n m : Nat} (hm : m < n) (h : ∀ e, e0 ≤ e → e < e0 + m → bs.getD e 0 = 0) (hz : bs.getD (e0 + m) 0 ≠ 0) : zsS bs k e0 n s = ⟨s.pos, s.rw, 5, (k : Int), ((e0 + m : Nat) : Int)⟩ := by
 have h1 : zsS bs k e0 (m + 1) s = ⟨s.pos, s.rw, 5, (k : Int), ((e0 + m : Nat) : Int)⟩ := by
  rw [zsS, zs_eq m h];exact ask_yes (decide_eq_false hz) hs
 have : ∀ d, zsS bs k e0 (m + 1 + d) s = ⟨s.pos, s.rw, 5, (k : Int), ((e0 + m : Nat) : Int)⟩ := by
  intro d
  induction d with
  | zero => exact h1
  | succ d ih =>
   rw [← Nat.add_assoc, zsS, ih];exact ask_why n5
 have := this (n - (m + 1))
 rwa [show m + 1 + (n - (m + 1)) = n by omega] at this
section
variable {bs : List Nat} (h160 : 160 ≤ bs.length) (hok : ∀ i, i < 8 → okF bs i)
theorem seal_eq (h160 : 160 ≤ bs.length) (hok : ∀ i, i < 8 → okF bs i) {s : D} (hs : s.why = 0) : ∀ j, j ≤ 8 → (∀ i, i < j → sealF bs i) → sealS (hd0 bs).E bs j s = s
 | 0, _, _ => rfl
 | j + 1, hj, h => by
  have hE := (hd0_eq h160).2.1 j (by omega);have he := (dir_eq h160 (s := ⟨0, 0, 0, 0, 0⟩) rfl j (by omega) (fun i hi => hok i (by omega))).2 (by omega);obtain ⟨z1, z2⟩ := h j (by omega);have hb : nextF bs j ≤ (entN bs j).f := by rw [(hok j (by omega)).2.2.1, beg_same]; unfold begN Bn.upN; split <;> split <;> omega
  rw [sealS, seal_eq h160 hok hs j (by omega) (fun i hi => h i (by omega)), hE, he, zs_eq _ (fun e h1 h2 => z1 e h1 (by omega))];exact ask_no (decide_eq_true z2)
theorem seal_no (h160 : 160 ≤ bs.length) (hok : ∀ i, i < 8 → okF bs i) {s : D} (hs : s.why = 0) {j : Nat} (hj : j < 8) (h : ∀ i, i < j → sealF bs i) {m : Nat} (hm : nextF bs j + m < (entN bs j).f) (hz : ∀ e, nextF bs j ≤ e → e < nextF bs j + m → bs.getD e 0 = 0) (hn : bs.getD (nextF bs j + m) 0 ≠ 0) : sealS (hd0 bs).E bs 8 s = ⟨s.pos, s.rw, 5, ((j + 1 : Nat) : Int), ((nextF bs j + m : Nat) : Int)⟩ := by
 have hE := (hd0_eq h160).2.1 j hj;have he := (dir_eq h160 (s := ⟨0, 0, 0, 0, 0⟩) rfl j (by omega) (fun i hi => hok i (by omega))).2 (by omega);have : sealS (hd0 bs).E bs (j + 1) s = ⟨s.pos, s.rw, 5, ((j + 1 : Nat) : Int), ((nextF bs j + m : Nat) : Int)⟩ := by
  rw [sealS, seal_eq h160 hok hs j (by omega) h, hE, he, zs_no hs (m := m) (by omega) hz hn];exact ask_why n5
 rw [sealS_stop (k := j + 1) (by rw [this]; exact n5) 8 (by omega), this]
theorem seal_sum (h160 : 160 ≤ bs.length) (hok : ∀ i, i < 8 → okF bs i) {s : D} (hs : s.why = 0) {j : Nat} (hj : j < 8) (h : ∀ i, i < j → sealF bs i) (hz : ∀ e, nextF bs j ≤ e → e < (entN bs j).f → bs.getD e 0 = 0) (hn : Pl.crc ((bs.drop (entN bs j).f).take (entN bs j).l) ≠ (entN bs j).c) : sealS (hd0 bs).E bs 8 s = ⟨s.pos, s.rw, 11, ((j + 1 : Nat) : Int), ((entN bs j).f : Int)⟩ := by
 have hE := (hd0_eq h160).2.1 j hj;have he := (dir_eq h160 (s := ⟨0, 0, 0, 0, 0⟩) rfl j (by omega) (fun i hi => hok i (by omega))).2 (by omega);have hb : nextF bs j ≤ (entN bs j).f := by rw [(hok j (by omega)).2.2.1, beg_same]; unfold begN Bn.upN; split <;> split <;> omega
 have : sealS (hd0 bs).E bs (j + 1) s = ⟨s.pos, s.rw, 11, ((j + 1 : Nat) : Int), ((entN bs j).f : Int)⟩ := by
  rw [sealS, seal_eq h160 hok hs j (by omega) h, hE, he, zs_eq _ (fun e h1 h2 => hz e h1 (by omega))];exact ask_yes (decide_eq_false hn) hs
 rw [sealS_stop (k := j + 1) (by rw [this]; exact n11) 8 (by omega), this]
theorem head_short (h : bs.length < 160) : decA bs = ⟨zeroI, 10, 0, (bs.length : Int)⟩ := by rw [decA, if_pos h]
theorem head_end (h160 : 160 ≤ bs.length) {S : D} (hS : headS bs = S) (hr : S.rw = 0) (hp : S.pos = 160) : headA bs = ⟨{ zeroI with base := Pl.num 8 (bs.drop 16) }, S.why, S.sec, S.ad⟩ := by
 have hl : (hq bs).Z.length = 160 := by
  show ((bs.drop 0).take 160).length = 160
  rw [List.length_take, List.length_drop];omega
 have he : endD (hq bs) S = S := ask_no (by simp [hr, hp, hl]);unfold headA;rw [hS, he, (hd0_eq h160).1]
theorem dec_stop (h160 : 160 ≤ bs.length) {x : A} (hx : headA bs = x) (hw : x.why ≠ 0) : decA bs = x := by
 rw [decA, if_neg (by omega), hx];exact partsA_stop (k := 0) (x := x) hw 8 (by decide)
theorem dec_head (h160 : 160 ≤ bs.length) (h : (headF bs).1 ≠ 0) : decA bs = ⟨{ zeroI with base := Pl.num 8 (bs.drop 16) }, (headF bs).1, 0, (headF bs).2⟩ := by
 refine dec_stop h160 (head_end h160 (S := ⟨160, 0, (headF bs).1, 0, (headF bs).2⟩) ?_ rfl rfl) h;unfold headS;rw [(hd0_eq h160).2.2, asks_eq (hd0_eq h160).1, dirS_stop (k := 0) (s := ⟨160, 0, (headF bs).1, 0, (headF bs).2⟩) (show _ ≠ _ from h) 8 (Nat.zero_le _), dirS, sealS_stop (k := 0) (s := ⟨160, 0, (headF bs).1, 0, (headF bs).2⟩) (show _ ≠ _ from h) 8 (Nat.zero_le _), sealS]
theorem dec_dir (h160 : 160 ≤ bs.length) (h : (headF bs).1 = 0) {j : Nat} (hj : j < 8) (hok : ∀ i, i < j → okF bs i) (hn : ¬ okF bs j) : decA bs = ⟨{ zeroI with base := Pl.num 8 (bs.drop 16) }, 5, 0, ((24 + 16 * j : Nat) : Int)⟩ := by
 refine dec_stop h160 (head_end h160 (S := ⟨160, 0, 5, 0, ((24 + 16 * j : Nat) : Int)⟩) ?_ rfl rfl) n5;unfold headS;rw [(hd0_eq h160).2.2, asks_eq (hd0_eq h160).1, dir_no h160 h hj hok hn, sealS_stop (k := 0) (by rw [sealS]; exact n5) 8 (by decide), sealS]
theorem headS_dir (h160 : 160 ≤ bs.length) (h : (headF bs).1 = 0) (hok : ∀ i, i < 8 → okF bs i) : headS bs = sealS (hd0 bs).E bs 8 ⟨160, 0, (headF bs).1, 0, (headF bs).2⟩ := by
 unfold headS;rw [(hd0_eq h160).2.2, asks_eq (hd0_eq h160).1, (dir_eq h160 (s := ⟨160, 0, (headF bs).1, 0, (headF bs).2⟩) h 8 (by decide) hok).1]
theorem dec_zero (h160 : 160 ≤ bs.length) (h0 : (headF bs).1 = 0) (hok : ∀ i, i < 8 → okF bs i) {j : Nat} (hj : j < 8) (h : ∀ i, i < j → sealF bs i) {m : Nat} (hm : nextF bs j + m < (entN bs j).f) (hz : ∀ e, nextF bs j ≤ e → e < nextF bs j + m → bs.getD e 0 = 0) (hn : bs.getD (nextF bs j + m) 0 ≠ 0) : decA bs = ⟨{ zeroI with base := Pl.num 8 (bs.drop 16) }, 5, ((j + 1 : Nat) : Int), ((nextF bs j + m : Nat) : Int)⟩ := by
 refine dec_stop h160 (head_end h160 (S := ⟨160, 0, 5, ((j + 1 : Nat) : Int), ((nextF bs j + m : Nat) : Int)⟩) ?_ rfl rfl) n5;rw [headS_dir h160 h0 hok, seal_no h160 hok (s := ⟨160, 0, (headF bs).1, 0, (headF bs).2⟩) h0 hj h hm hz hn]
theorem dec_sum (h160 : 160 ≤ bs.length) (h0 : (headF bs).1 = 0) (hok : ∀ i, i < 8 → okF bs i) {j : Nat} (hj : j < 8) (h : ∀ i, i < j → sealF bs i) (hz : ∀ e, nextF bs j ≤ e → e < (entN bs j).f → bs.getD e 0 = 0) (hn : Pl.crc ((bs.drop (entN bs j).f).take (entN bs j).l) ≠ (entN bs j).c) : decA bs = ⟨{ zeroI with base := Pl.num 8 (bs.drop 16) }, 11, ((j + 1 : Nat) : Int), ((entN bs j).f : Int)⟩ := by
 refine dec_stop h160 (head_end h160 (S := ⟨160, 0, 11, ((j + 1 : Nat) : Int), ((entN bs j).f : Int)⟩) ?_ rfl rfl) n11;rw [headS_dir h160 h0 hok, seal_sum h160 hok (s := ⟨160, 0, (headF bs).1, 0, (headF bs).2⟩) h0 hj h hz hn]
theorem fit_of (h160 : 160 ≤ bs.length) (hok : ∀ i, i < 8 → okF bs i) {j : Nat} (hj : j < 8) : Fit (qOf (hd0 bs).E bs (j + 1)) (pOf bs j) := by
 have hE := (hd0_eq h160).2.1 j hj;have hl : ((bs.drop (entN bs j).f).take (entN bs j).l).length = (entN bs j).l := by
  rw [List.length_take, List.length_drop];have := (hok j hj).2.2.2.1;omega
 unfold qOf pOf;rw [hE];exact ⟨by simp only [hl], by simp only [hl]⟩
theorem dec_parts (h160 : 160 ≤ bs.length) (h0 : (headF bs).1 = 0) (hok : ∀ i, i < 8 → okF bs i) (hs : ∀ i, i < 8 → sealF bs i) : ∀ j, j ≤ 8 → (∀ i, i < j → (prE bs i).bad < 0) → (partsA (hd0 bs).E bs j (headA bs)).why = 0 ∧ (partsA (hd0 bs).E bs j (headA bs)).J = prJ bs j ∧ ∀ i, i < j → True
 | 0, _, _ => by
  have := head_end h160 (S := ⟨160, 0, (headF bs).1, 0, (headF bs).2⟩) (by rw [headS_dir h160 h0 hok, seal_eq h160 hok (s := ⟨160, 0, (headF bs).1, 0, (headF bs).2⟩) h0 8 (by decide) hs]) rfl rfl;rw [partsA, this];exact ⟨h0, rfl, fun _ _ => trivial⟩
 | j + 1, hj, hb => by
  obtain ⟨e1, e2, _⟩ := dec_parts h160 h0 hok hs j (by omega) (fun i hi => hb i (by omega));have hf := fit_of h160 hok (j := j) (by omega);have hR : Rel (qOf (hd0 bs).E bs (j + 1)) (startD (partsA (hd0 bs).E bs j (headA bs))) ⟨(entN bs j).f, -1⟩ := .inl ⟨e1, rfl, rfl, by show _ = ((hd0 bs).E (j + 1)).f + 0; rw [(hd0_eq h160).2.1 j (by omega)]; rfl, Nat.zero_le _⟩;obtain ⟨s1, s2⟩ := sec_rel hf (j + 1) (prJ bs j) hR (by simp [goD, startD, e1]) rfl;rw [partsA, partA, if_neg (by rw [e1]; simp), e2];rcases end_rel hf s1 with ⟨k1, k2, k3⟩ | ⟨k1, k2, k3, k4⟩
  ·exact ⟨k1, s2 k2, fun _ _ => trivial⟩
  ·exact absurd (hb j (by omega)) (by unfold prE; omega)
theorem dec_sec (h160 : 160 ≤ bs.length) (h0 : (headF bs).1 = 0) (hok : ∀ i, i < 8 → okF bs i) (hs : ∀ i, i < 8 → sealF bs i) {j : Nat} (hj : j < 8) (h : ∀ i, i < j → (prE bs i).bad < 0) (hn : ¬ (prE bs j).bad < 0) : (decA bs).why = 5 ∧ (decA bs).sec = ((j + 1 : Nat) : Int) ∧ (decA bs).ad = (prE bs j).bad := by
 obtain ⟨e1, e2, _⟩ := dec_parts h160 h0 hok hs j (by omega) h;have hf := fit_of h160 hok (j := j) hj;have hR : Rel (qOf (hd0 bs).E bs (j + 1)) (startD (partsA (hd0 bs).E bs j (headA bs))) ⟨(entN bs j).f, -1⟩ := .inl ⟨e1, rfl, rfl, by show _ = ((hd0 bs).E (j + 1)).f + 0; rw [(hd0_eq h160).2.1 j hj]; rfl, Nat.zero_le _⟩;obtain ⟨s1, s2⟩ := sec_rel hf (j + 1) (prJ bs j) hR (by simp [goD, startD, e1]) rfl;have hp : (partsA (hd0 bs).E bs (j + 1) (headA bs)).why = 5 ∧ (partsA (hd0 bs).E bs (j + 1) (headA bs)).sec = ((j + 1 : Nat) : Int) ∧ (partsA (hd0 bs).E bs (j + 1) (headA bs)).ad = (prE bs j).bad := by
  rw [partsA, partA, if_neg (by rw [e1]; simp), e2];rcases end_rel hf s1 with ⟨k1, k2, k3⟩ | ⟨k1, k2, k3, k4⟩
  ·exact absurd k3 hn
  ·exact ⟨k1, k2, k3.symm⟩
 rw [decA, if_neg (by omega), partsA_stop (k := j + 1) (by rw [hp.1]; decide) 8 (by omega)];exact hp
theorem dec_ok (h160 : 160 ≤ bs.length) (h0 : (headF bs).1 = 0) (hok : ∀ i, i < 8 → okF bs i) (hs : ∀ i, i < 8 → sealF bs i) (h : ∀ i, i < 8 → (prE bs i).bad < 0) : (decA bs).why = 0 ∧ (decA bs).J = prJ bs 8 := by
 obtain ⟨e1, e2, _⟩ := dec_parts h160 h0 hok hs 8 (by decide) h;rw [decA, if_neg (by omega)];exact ⟨e1, e2⟩
end
end Dd
end Go.Proofs.YtmfkggngjeolcaaGreatDoor
namespace Go.Proofs.YtmfkggngjeolcaaGreatDoor
open Go.RowKit
theorem rNumber_yes {s : Nat} {zs : List Nat} {v : Value} {w : World} (hs : s ≤ 8) (hv : Sl w v zs) (hl : s ≤ zs.length) (h0 : 0 < s) :
  Calls Tryz.prog 69 #[v, .int .i64 (s : Int)] w fun e w' => e = .returned (.tuple #[.int .u64 (Pl.num s zs : Nat), .bool true]) ∧ w' = w := by
 obtain ⟨b, o, cap, rfl, h1, h2, h3, h4⟩ := hv.pos (by omega);have HC : Hid (∀ i, i < zs.length → w.cell? ⟨b, o + i, none⟩ = some (.int .u8 (zs.getD i 0 : Nat))) := h4;have HZ : Hid (∀ z ∈ zs, z < 256) := h3;unfold maxLen at h2;clear h3 h4;go_enter Tryz.func69, Tryz.ntmps69
 go_wp2
 go_loop [6, 7] (fun nv iv => ∃ j : Nat, j ≤ s ∧ iv = .int .i64 ((j : Int) - 1) ∧ nv = .int .u64 ((Pl.acc zs j (s - j) : Nat) : Int)) (fun _ iv => (intOf iv + 1).toNat)
 case atStart => exact ⟨s, by omega, rfl, by rw [Nat.sub_self]; rfl⟩
 case round =>
  obtain ⟨j, hj, rfl, rfl⟩ := hrel;rcases j with _ | k
  ·have HE : Hid (Pl.acc zs 0 (s - 0) = Pl.num s zs) := (rfl : _ = _)
   generalize Pl.acc zs 0 (s - 0) = x at *;go_wp2
   go_ret2
   exact ⟨by rw [← HE.out]; rfl, rfl⟩
  ·have hck := HC.out k (by omega);have hz := Pl.mem_getD (k := k) HZ.out;have HA : Hid (Pl.acc zs k (s - k) = zs.getD k 0 + 256 * Pl.acc zs (k + 1) (s - (k + 1))) := by
    show _ = _
    rw [show s - k = (s - (k + 1)) + 1 from by omega]
    rfl
   have hs0 := Pl.acc_lt HZ.out (k + 1) (s - (k + 1));have hs1 : Pl.acc zs (k + 1) (s - (k + 1)) < 72057594037927936 := Nat.lt_of_lt_of_le hs0 (Nat.le_trans (Nat.pow_le_pow_right (by decide) (show s - (k + 1) ≤ 7 by omega)) (by decide));clear hs0;generalize Pl.acc zs (k + 1) (s - (k + 1)) = x at *;generalize zs.getD k 0 = z at *;go_wp2
   go_round
   case rel => exact ⟨k, by omega, by go_num, by rw [HA.out]; go_num⟩
   case measure => simp [intOf]
end Go.Proofs.YtmfkggngjeolcaaGreatDoor
