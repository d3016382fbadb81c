import Derived.Test.YtmfkggngjeolcaaGreatDoorPk27
import Derived.Test.YtmfkggngjeolcaaGreatDoorPk08
import Derived.Test.YtmfkggngjeolcaaGreatDoorPk11
import Derived.Test.YtmfkggngjeolcaaGreatDoorPk21
/- Bundle: what is laid, section by section. Plain. Own work. -/
namespace Go.Proofs.YtmfkggngjeolcaaGreatDoor
open Bn Dc
set_option linter.unusedVariables false
set_option linter.unusedSimpArgs false
namespace Dc
theorem field_iff (w : Int) (b : Bool) : fieldF w b = 0 ↔ w = 0 ∧ b = true := by
  unfold fieldF
  cases b <;> simp
theorem ask_iff (w : Int) (b : Bool) {n : Int} (hn : n ≠ 0) : askF w b n = 0 ↔ w = 0 ∧ b = true := by
  constructor
  · exact ask_zero hn
  · rintro ⟨rfl, rfl⟩
    unfold askF
    simp
theorem byte1 (k : Int) (s : S) : (byteS k s).1 = s.1 ++ b1 k := rfl
theorem half1 (k : Int) (s : S) : (halfS k s).1 = s.1 ++ b2 k := rfl
theorem none1 (k : Int) (s : S) : (noneS k s).1 = s.1 ++ b2 k := rfl
theorem word1 (k : Int) (s : S) : (wordS k s).1 = s.1 ++ b4 k := rfl
theorem long1 (k : Nat) (s : S) : (longS k s).1 = s.1 ++ Pl.le 8 k := rfl
theorem flag1 (k : Bool) (s : S) : (flagS k s).1 = s.1 ++ bf k := rfl
theorem zeros1 (k : Nat) (s : S) : (zerosS k s).1 = s.1 ++ bz k := rfl
theorem field1 (k : Bool) (s : S) : (fieldS k s).1 = s.1 := rfl
theorem ask1 (k : Bool) (n : Int) (s : S) : (askS k n s).1 = s.1 := rfl
theorem bytes1 (k : List Nat) (s : S) : (bytesS k s).1 = s.1 ++ k := rfl
theorem many1 (n : Nat) (s : S) : (manyS n s).1 = s.1 ++ manyB n := by rw [manyS, zeros1, half1, manyB, List.append_assoc]
theorem fit_iff (lo hi k : Int) : fitB lo hi k = true ↔ lo ≤ k ∧ k ≤ hi := by simp [fitB]
theorem byte2 (k : Int) (s : S) : (byteS k s).2 = 0 ↔ s.2 = 0 ∧ f1 k := (field_iff _ _).trans (and_congr Iff.rfl (fit_iff 0 255 k))
theorem half2 (k : Int) (s : S) : (halfS k s).2 = 0 ↔ s.2 = 0 ∧ f2 k := (field_iff _ _).trans (and_congr Iff.rfl (fit_iff 0 65535 k))
theorem none2 (k : Int) (s : S) : (noneS k s).2 = 0 ↔ s.2 = 0 ∧ fn k := (field_iff _ _).trans (and_congr Iff.rfl (by simp [noneB, fn]))
theorem word2 (k : Int) (s : S) : (wordS k s).2 = 0 ↔ s.2 = 0 ∧ f4 k := (field_iff _ _).trans (and_congr Iff.rfl (fit_iff 0 4294967295 k))
theorem long2 (k : Nat) (s : S) : (longS k s).2 = s.2 := rfl
theorem flag2 (k : Bool) (s : S) : (flagS k s).2 = 0 ↔ s.2 = 0 := by
  rw [flagS, byte2]
  exact ⟨fun h => h.1, fun h => ⟨h, by cases k <;> (unfold f1; simp)⟩⟩
theorem zeros2 (k : Nat) (s : S) : (zerosS k s).2 = s.2 := rfl
theorem field2 (k : Bool) (s : S) : (fieldS k s).2 = 0 ↔ s.2 = 0 ∧ k = true := field_iff _ _
theorem bytes2 (k : List Nat) (s : S) : (bytesS k s).2 = s.2 := rfl
theorem many2 (n : Nat) (s : S) : (manyS n s).2 = 0 ↔ s.2 = 0 ∧ f2 (n : Int) := half2 _ _
/-- f lays these bytes; all is well just if it fits -/
structure Lay {α : Type} (f : α → S → S) (g : Nat → α → List Nat) (fit : α → Prop) (x : α) : Prop where
  bs : ∀ s, (f x s).1 = s.1 ++ g s.1.length x
  ok : ∀ s, (f x s).2 = 0 ↔ s.2 = 0 ∧ fit x
theorem Lay.each {α : Type} {f : α → S → S} {g : Nat → α → List Nat} {fit : α → Prop} (h : ∀ x, Lay f g fit x) : ∀ (xs : List α) (s : S), (eachS f xs s).1 = s.1 ++ layL g s.1.length xs ∧ ((eachS f xs s).2 = 0 ↔ s.2 = 0 ∧ ∀ x ∈ xs, fit x)
  | [], s => ⟨by simp [eachS, layL], by simp [eachS]⟩
  | x :: xs, s => by
    obtain ⟨h1, h2⟩ := Lay.each h xs (f x s)
    refine ⟨?_, ?_⟩
    · rw [eachS, h1, (h x).bs, layL, List.append_assoc, List.length_append]
    · rw [eachS, h2, (h x).ok]
      simp only [List.mem_cons, forall_eq_or_imp, and_assoc]
def tnF (x : Tn) : Prop := f1 x.cpu ∧ f1 x.rule ∧ f1 x.vec ∧ fn x.to ∧ fn x.root
def chF (x : Lk) : Prop := fn x.fr ∧ fn x.to ∧ f1 x.eff ∧ f1 x.vec ∧ x.msk = false
def iqF (x : Lk) : Prop := fn x.fr ∧ fn x.to ∧ x.eff = 1 ∧ f1 x.vec
def stF (x : Int × Int) : Prop := fn x.1 ∧ f4 x.2
def gdF (x : Gd) : Prop := f1 (x.fill : Int) ∧ x.txt.size ≤ 1048576
def laneF (l : List (Int × Int)) : Prop := f2 (l.length : Int) ∧ ∀ y ∈ l, stF y
def planF (n : Nat) (p : Sc) : Prop := p.lanes.length = n ∧ f4 p.maj ∧ ∀ l ∈ p.lanes, laneF l
theorem range_lay (x : Rg) : Lay rangeS (fun _ => rangeB) (fun _ => True) x := ⟨fun s => by simp only [rangeS, long1, rangeB, List.append_assoc], fun s => by simp only [rangeS, long2, and_true]⟩
theorem ten_lay (x : Tn) : Lay tenS (fun _ => tenB) tnF x := ⟨fun s => by simp only [tenS, none1, byte1, flag1, tenB, List.append_assoc], fun s => by simp only [tenS, none2, byte2, flag2, tnF, and_assoc]⟩
theorem port_lay (x : Int) : Lay portS (fun _ => portB) fn x := ⟨fun s => by simp only [portS, none1, zeros1, portB, List.append_assoc], fun s => by simp only [portS, none2, zeros2]⟩
theorem ch_lay (x : Lk) : Lay chS (fun _ => chB) chF x := ⟨fun s => by simp only [chS, none1, zeros1, byte1, field1, chB, List.append_assoc], fun s => by
  simp only [chS, none2, zeros2, byte2, field2, chF, and_assoc]
  cases x.msk <;> simp⟩
theorem iq_lay (x : Lk) : Lay iqS (fun _ => iqB) iqF x := ⟨fun s => by simp only [iqS, none1, zeros1, byte1, flag1, field1, iqB, List.append_assoc], fun s => by
  simp only [iqS, none2, zeros2, byte2, flag2, field2, iqF, and_assoc, decide_eq_true_eq]
  constructor
  · rintro ⟨a, b, c, d, e⟩; exact ⟨a, c, d, b, e⟩
  · rintro ⟨a, b, c, d, e⟩; exact ⟨a, d, b, c, e⟩⟩
theorem st_lay (x : Int × Int) : Lay stS (fun _ => stB) stF x := ⟨fun s => by simp only [stS, none1, zeros1, word1, stB, List.append_assoc], fun s => by simp only [stS, none2, zeros2, word2, stF, and_assoc]⟩
theorem text_lay (t : ByteArray) : Lay textS textB (fun t => t.size ≤ 1048576) t := ⟨fun s => by
  have e : (bytesS (bts t) (wordS (t.size : Int) (askS (decide (t.size ≤ 1048576)) 3 s))).1.length = s.1.length + 4 + t.size := by
    rw [bytes1, word1, ask1, List.length_append, List.length_append, b4_len, bts_len]
  rw [textS, padS, e]
  simp only [zeros1, bytes1, word1, ask1, textB, List.append_assoc], fun s => by
  rw [textS, padS, zeros2, bytes2, word2, askS, ask_iff _ _ (by decide), decide_eq_true_eq]
  constructor
  · rintro ⟨h, _⟩; exact h
  · rintro ⟨h, k⟩; exact ⟨⟨h, k⟩, by unfold f4; omega⟩⟩
theorem gd_lay (x : Gd) : Lay gdS gdB gdF x := ⟨fun s => by
  have e : (zerosS 3 (byteS (x.fill : Int) (longS x.sz (longS x.ad s)))).1.length = s.1.length + 20 := by
    simp only [zeros1, byte1, long1, List.length_append, bz_len, b1_len, Pl.le_length]
  rw [gdS, (text_lay x.txt).bs, e]
  simp only [zeros1, byte1, long1, gdB, List.append_assoc], fun s => by
  rw [gdS, (text_lay x.txt).ok]
  simp only [zeros2, byte2, long2, gdF, and_assoc]⟩
theorem lane_lay (l : List (Int × Int)) : Lay laneS (fun _ => laneB) laneF l := ⟨fun s => by
  rw [laneS, (Lay.each st_lay l _).1, many1, layC_any stB l _ 0, laneB, List.append_assoc], fun s => by
  rw [laneS, (Lay.each st_lay l _).2, many2, and_assoc]
  rfl⟩
theorem plan_lay (n : Nat) (p : Sc) : Lay (planS n) (fun _ => planB) (planF n) p := ⟨fun s => by
  rw [planS, (Lay.each lane_lay p.lanes _).1, zeros1, word1, field1, layC_any laneB p.lanes _ 0, planB]
  simp only [List.append_assoc], fun s => by
  rw [planS, (Lay.each lane_lay p.lanes _).2]
  simp only [zeros2, word2, field2, planF, and_assoc, decide_eq_true_eq]⟩
def tabB (f : Nat → Nat) : List Nat := tb f 512
theorem tab_lay (f : Nat → Nat) : Lay tabS (fun _ => tabB) (fun _ => True) f := ⟨fun s => by rw [tabS, bytes1, tabB], fun s => by rw [tabS, bytes2, and_true]⟩
theorem gd_mod {a b : Nat} (h : a % 8 = b % 8) (x : Gd) : gdB a x = gdB b x := by
  unfold gdB textB upN
  have e : ∀ n, (if (a + 20 + 4 + n) % 8 = 0 then a + 20 + 4 + n else a + 20 + 4 + n + (8 - (a + 20 + 4 + n) % 8)) - (a + 20 + 4 + n) = (if (b + 20 + 4 + n) % 8 = 0 then b + 20 + 4 + n else b + 20 + 4 + n + (8 - (b + 20 + 4 + n) % 8)) - (b + 20 + 4 + n) := fun n => by
    split <;> split <;> omega
  rw [e]
theorem gds_mod : ∀ (xs : List Gd) {a b : Nat} (h : a % 8 = b % 8), layL gdB a xs = layL gdB b xs
  | [], _, _, _ => rfl
  | x :: xs, a, b, h => by
    rw [layL, layL, gd_mod h x, gds_mod xs (a := a + (gdB b x).length) (b := b + (gdB b x).length) (by omega)]
/-- a section's bytes -/
def secB (I : Im) : Nat → List Nat
  | 0 => bz 160
  | 1 => b2 (I.rams.length : Int) ++ (b2 (I.devs.length : Int) ++ (bz 4 ++ (layL (fun _ => rangeB) 0 I.rams ++ layL (fun _ => rangeB) 0 I.devs)))
  | 2 => manyB I.subs.length ++ layL (fun _ => tenB) 0 I.subs
  | 3 => manyB I.ports.length ++ layL (fun _ => portB) 0 I.ports
  | 4 => manyB I.regs.length ++ layL gdB 0 I.regs
  | 5 => manyB I.chs.length ++ layL (fun _ => chB) 0 I.chs
  | 6 => manyB I.irqs.length ++ layL (fun _ => iqB) 0 I.irqs
  | 7 => b2 (I.plans.length : Int) ++ (b2 (lanesN I : Int) ++ (b2 I.master ++ (b2 I.start ++ layL (fun _ => planB) 0 I.plans)))
  | _ => layL (fun _ => tabB) 0 I.tabs
def fitK (I : Im) : Nat → Prop
  | 0 => I.base % 4096 = 0
  | 1 => f2 (I.rams.length : Int) ∧ f2 (I.devs.length : Int)
  | 2 => f2 (I.subs.length : Int) ∧ ∀ x ∈ I.subs, tnF x
  | 3 => I.ports.length = I.devs.length ∧ f2 (I.ports.length : Int) ∧ ∀ x ∈ I.ports, fn x
  | 4 => f2 (I.regs.length : Int) ∧ ∀ x ∈ I.regs, gdF x
  | 5 => f2 (I.chs.length : Int) ∧ ∀ x ∈ I.chs, chF x
  | 6 => f2 (I.irqs.length : Int) ∧ ∀ x ∈ I.irqs, iqF x
  | 7 => f2 (I.plans.length : Int) ∧ f2 (lanesN I : Int) ∧ fn I.master ∧ f2 I.start ∧ ∀ x ∈ I.plans, planF (lanesN I) x
  | _ => True
theorem sec_lay (I : Im) (k : Nat) (s : S) (h8 : s.1.length % 8 = 0) : (secS I k s).1 = s.1 ++ secB I k ∧ ((secS I k s).2 = 0 ↔ s.2 = 0 ∧ fitK I k) := by
  match k with
  | 0 => exact ⟨rfl, by show (roomS I s).2 = 0 ↔ _; rw [roomS, zeros2, field2, decide_eq_true_eq]; rfl⟩
  | 1 =>
    refine ⟨?_, ?_⟩
    · show (busS I s).1 = _
      rw [busS, (Lay.each range_lay I.devs _).1, (Lay.each range_lay I.rams _).1, layC_any rangeB I.devs _ 0, layC_any rangeB I.rams _ 0, secB]
      simp only [zeros1, half1, List.append_assoc]
    · show (busS I s).2 = 0 ↔ _
      rw [busS, (Lay.each range_lay I.devs _).2, (Lay.each range_lay I.rams _).2, fitK]
      simp only [zeros2, half2, and_assoc, implies_true, and_true]
  | 2 =>
    refine ⟨?_, ?_⟩
    · show (subsS I s).1 = _
      rw [subsS, (Lay.each ten_lay I.subs _).1, layC_any tenB I.subs _ 0, secB, many1, List.append_assoc]
    · show (subsS I s).2 = 0 ↔ _
      rw [subsS, (Lay.each ten_lay I.subs _).2, fitK, many2, and_assoc]
  | 3 =>
    refine ⟨?_, ?_⟩
    · show (portsS I s).1 = _
      rw [portsS, (Lay.each port_lay I.ports _).1, layC_any portB I.ports _ 0, secB, many1, field1, List.append_assoc]
    · show (portsS I s).2 = 0 ↔ _
      rw [portsS, (Lay.each port_lay I.ports _).2, fitK, many2, field2, and_assoc, and_assoc, decide_eq_true_eq]
  | 4 =>
    refine ⟨?_, ?_⟩
    · show (regsS I s).1 = _
      rw [regsS, (Lay.each gd_lay I.regs _).1, gds_mod I.regs (b := 0) (by rw [many1, List.length_append, manyB_len]; omega), secB, many1, List.append_assoc]
    · show (regsS I s).2 = 0 ↔ _
      rw [regsS, (Lay.each gd_lay I.regs _).2, fitK, many2, and_assoc]
  | 5 =>
    refine ⟨?_, ?_⟩
    · show (chsS I s).1 = _
      rw [chsS, (Lay.each ch_lay I.chs _).1, layC_any chB I.chs _ 0, secB, many1, List.append_assoc]
    · show (chsS I s).2 = 0 ↔ _
      rw [chsS, (Lay.each ch_lay I.chs _).2, fitK, many2, and_assoc]
  | 6 =>
    refine ⟨?_, ?_⟩
    · show (irqsS I s).1 = _
      rw [irqsS, (Lay.each iq_lay I.irqs _).1, layC_any iqB I.irqs _ 0, secB, many1, List.append_assoc]
    · show (irqsS I s).2 = 0 ↔ _
      rw [irqsS, (Lay.each iq_lay I.irqs _).2, fitK, many2, and_assoc]
  | 7 =>
    refine ⟨?_, ?_⟩
    · show (plansS I s).1 = _
      rw [plansS, (Lay.each (plan_lay (lanesN I)) I.plans _).1, layC_any planB I.plans _ 0, secB]
      simp only [half1, none1, List.append_assoc]
    · show (plansS I s).2 = 0 ↔ _
      rw [plansS, (Lay.each (plan_lay (lanesN I)) I.plans _).2, fitK]
      simp only [half2, none2, and_assoc]
  | k + 8 =>
    refine ⟨?_, ?_⟩
    · show (tabsS I s).1 = s.1 ++ layL (fun _ => tabB) 0 I.tabs
      rw [tabsS, (Lay.each tab_lay I.tabs _).1, layC_any tabB I.tabs _ 0]
    · show (tabsS I s).2 = 0 ↔ s.2 = 0 ∧ True
      rw [tabsS, (Lay.each tab_lay I.tabs _).2]
      simp
end Dc
end Go.Proofs.YtmfkggngjeolcaaGreatDoor
/- Bundle, the document's own Encode: a function that lays a section: its beginning, its end. Own work. -/
namespace Go.Proofs.YtmfkggngjeolcaaGreatDoor
open Go.RowKit Bn Ek
set_option linter.unusedVariables false
set_option linter.unusedSimpArgs false
/-- what such a function answers -/
def LdR (w : World) (s : S) (e : Ending) (w' : World) : Prop := ∃ v, e = .returned (.agg #[v, .int .i64 s.2]) ∧ Own w' w.heap.size v s.1 ∧ (∀ z ∈ s.1, z < 256) ∧ (s.2 = 0 ∨ s.2 = 132) ∧ Below w.heap.size w w'
abbrev ldC (v : Value) (no : Int) : Obj := .cells #[v, .int .i64 no] 101 (0, 0)
theorem ld_begin (w : World) : Ld (w.heap.size + 1) (w.heap.size + 1) ((w.alloc (.cells #[.slice none 0 0, .int .i64 0] 101)).alloc (.cells #[.slice none 0 0, .int .i64 0] 101)) ([], 0) ((w.alloc (.cells #[.slice none 0 0, .int .i64 0] 101)).alloc (.cells #[.slice none 0 0, .int .i64 0] 101))
    ∧ ((w.alloc (.cells #[.slice none 0 0, .int .i64 0] 101)).alloc (.cells #[.slice none 0 0, .int .i64 0] 101)).heap[w.heap.size]? = some (ldC (.slice none 0 0) 0)
    ∧ Below w.heap.size w ((w.alloc (.cells #[.slice none 0 0, .int .i64 0] 101)).alloc (.cells #[.slice none 0 0, .int .i64 0] 101)) := by
  have s1 : (w.alloc (.cells #[.slice none 0 0, .int .i64 0] 101)).heap.size = w.heap.size + 1 := by simp
  have b1 := heap_alloc_new (w.alloc (.cells #[.slice none 0 0, .int .i64 0] 101)) (.cells #[.slice none 0 0, .int .i64 0] 101)
  rw [s1] at b1
  refine ⟨⟨.slice none 0 0, b1, own_nil _ _, (fun e => by cases e), (fun z hz => by cases hz), .inl rfl, Nat.le_refl _, by simp, Fk.refl _ _⟩, ?_, ((Below.refl _ _).alloc (Nat.le_refl _) _).alloc (by rw [s1]; omega) _⟩
  rw [Below.heap_alloc _ _ _ (by rw [s1]; omega)]
  exact heap_alloc_new w _
section
variable {N : Nat} {w W1 w1 : World} {v : Value} {s : S}
theorem ld_res (h : Ld (N + 1) (N + 1) W1 s w1) {o : Obj} (hr : W1.heap[N]? = some o) : w1.heap[N]? = some o := (h.bl.block N (by omega)).trans hr
theorem ld_end (h : Lv (N + 1) (N + 1) W1 v s w1) (hr : W1.heap[N]? = some (ldC (.slice none 0 0) 0)) (hb : Below N w W1) (hN : N = w.heap.size) (no : Int) (hno : no = s.2) :
    ((w1.setCell ⟨N, 0, none⟩ v).setCell ⟨N, 1, none⟩ (.int .i64 no)).cell? ⟨N, 0, none⟩ = some v ∧ ((w1.setCell ⟨N, 0, none⟩ v).setCell ⟨N, 1, none⟩ (.int .i64 no)).cell? ⟨N, 1, none⟩ = some (.int .i64 no)
    ∧ LdR w s (.returned (.agg #[v, .int .i64 no])) ((w1.setCell ⟨N, 0, none⟩ v).setCell ⟨N, 1, none⟩ (.int .i64 no)) := by
  subst hno
  subst hN
  have hr1 := ld_res ⟨v, h⟩ hr
  have hz : ((w1.setCell ⟨w.heap.size, 0, none⟩ v).setCell ⟨w.heap.size, 1, none⟩ (.int .i64 s.2)).heap[w.heap.size]? = some (ldC v s.2) := by
    simp [World.setCell, Array.getElem?_modify, hr1, ldC]
  have hne : ∀ k, v.ownBlock = some k → ¬ k = w.heap.size := fun k hk e => by
    have := (h.own.lt k hk).1
    omega
  refine ⟨?_, ?_, v, rfl, ?_, h.sm, h.no, (hb.trans ((h.bl.mono (Nat.le_succ _)).setCell (p := ⟨w.heap.size, 0, none⟩) (Nat.le_refl _) _)).setCell (p := ⟨w.heap.size, 1, none⟩) (Nat.le_refl _) _⟩
  · rw [cell_of_row _ _ 0 _ _ _ hz]; rfl
  · rw [cell_of_row _ _ 1 _ _ _ hz]; rfl
  · have h1 := (h.own.keeps (Keeps.setCell w1 w.heap.size 0 v) hne).keeps (Keeps.setCell _ w.heap.size 1 (.int .i64 s.2)) hne
    rcases h1.2 with hv | ⟨g, cap, cur, e, hb1, r⟩
    · exact ⟨h1.1, .inl hv⟩
    · exact ⟨h1.1, .inr ⟨g, cap, cur, e, by omega, r⟩⟩
end
end Go.Proofs.YtmfkggngjeolcaaGreatDoor
/- Bundle, the document's own: a row appended to a row. Own work. -/
namespace Go.Proofs.YtmfkggngjeolcaaGreatDoor
open Go.RowKit Bn Dc
set_option linter.unusedVariables false
set_option linter.unusedSimpArgs false
theorem encs_app {β : Type} {enc : β → List Value} (xs ys : List β) : encs enc (xs ++ ys) = encs enc xs ++ encs enc ys := by simp [encs]
theorem encs_one {β : Type} {k : Nat} {enc : β → List Value} (he : EncOk k enc) : ∀ ys : List β, ∀ u ∈ encs enc ys, u.oneCell' = true := fun ys u hu => by
  unfold encs at hu
  obtain ⟨x, _, hx⟩ := List.mem_flatMap.1 hu
  exact he.one x u hx
theorem TbG.rowG {w : World} {v : Value} {fs : List (Nat → Nat)} (h : TbG w v fs) : RowG 512 tbE w v fs := by
  obtain ⟨ao, cap, rfl, h1, h2, h3⟩ := h
  refine ⟨ao, cap, rfl, h1, h2, fun i hi => ?_⟩
  obtain ⟨b, o, rfl, hc⟩ := h3 i hi
  refine ⟨b, o, rfl, World.block_lt_of_cell? w _ (hc 0 (by decide)), fun j hj => ?_⟩
  rw [hc j hj]
  unfold tbE
  rw [Array.getElem?_toList, tabV_get _ hj]
section
variable {β : Type} {enc : β → List Value} {w : World} {base : Nat}
theorem run_appR (tS tE : TypeId) (ty : TypeId) (k b : Nat) (z : Value) (hu : Tryz.prog.underlying tS = some (.slice tE)) (hi : (Tryz.prog.info? tE).map (fun i => (i.zero, i.size, i.bytes)) = some (some z, k, b)) (hk : 0 < k) (hzs : z.cells.size = k) (hb : b ≤ 4096) (he : EncOk k enc)
    {v u : Value} {xs ys : List β} (hv : OwnG tE k enc w base v xs) (hy : RowG k enc w u ys) (hlen : xs.length + ys.length ≤ 33554432) (hbase : base ≤ w.heap.size) :
    ∃ v' w', (Builtin.append_ #[tS, tS] ty #[v, u]).run Tryz.prog w = .ok v' w' ∧ OwnG tE k enc w' base v' (xs ++ ys) ∧ w.grownBy w' v.ownBlock ∧ (v'.ownBlock = v.ownBlock ∨ v'.ownBlock = some w.heap.size) := by
  obtain ⟨i, hi, hz0, hz1, hz2⟩ := info_parts hi
  have hby : (xs.length + ys.length) * b ≤ 140737488355328 := by
    have : (xs.length + ys.length) * b ≤ 33554432 * 4096 := Nat.mul_le_mul hlen hb
    omega
  obtain ⟨ao, cap, rfl, h1, h2, h3⟩ := hy
  have hfin : ∀ ad, ao = some ad → (∀ j u, (encs enc ys)[j]? = some u → w.cell? (ad.add j) = some u) → ∃ v' w', (Builtin.append_ #[tS, tS] ty #[v, .slice ao ys.length cap]).run Tryz.prog w = .ok v' w' ∧ OwnG tE k enc w' base v' (xs ++ ys) ∧ w.grownBy w' v.ownBlock ∧ (v'.ownBlock = v.ownBlock ∨ v'.ownBlock = some w.heap.size) := fun ad e hc => by
    subst e
    obtain ⟨v', w', r1, r2, r3, _, r5⟩ := run_append_own_at (P := Tryz.prog) w base tS ty tE i z k b hu hi hz0 hz1 hz2 hzs hk v xs.length (encs enc xs) hv ad ys.length cap (encs enc ys) (encs_len he ys) hc (encs_one he ys) (by unfold maxLen; omega) hby hbase
    refine ⟨v', w', r1, ?_, r3, r5⟩
    unfold OwnG
    rw [List.length_append, encs_app]
    exact r2
  by_cases hp : 0 < ys.length
  · obtain ⟨b0, o0, e, _, _⟩ := h3 0 hp
    refine hfin _ e (fun j u hj => ?_)
    have hjl : j < ys.length * k := by rw [← encs_len he ys]; exact (List.getElem?_eq_some_iff.1 hj).1
    have hdl : j / k < ys.length := (Nat.div_lt_iff_lt_mul hk).2 hjl
    have hml := Nat.mod_lt j hk
    have hej : j / k * k + j % k = j := by rw [Nat.mul_comm]; exact Nat.div_add_mod j k
    obtain ⟨b', o', e', _, hc⟩ := h3 (j / k) hdl
    rw [e] at e'
    cases e'
    have hg := encs_get he ys (j / k) (j % k) hdl hml
    rw [hej, hj] at hg
    have hc2 := hc (j % k) hml
    rw [← hg, Nat.add_assoc, hej] at hc2
    rw [Addr.add_lit]
    exact hc2
  · obtain rfl : ys = [] := List.eq_nil_of_length_eq_zero (by omega)
    cases ao with
    | some ad => exact hfin ad rfl (fun j u hj => by simp [encs] at hj)
    | none =>
      refine ⟨v, w, run_append_owned_none (P := Tryz.prog) w base tS ty tE i k hu hi v xs.length (encs enc xs) hv, ?_, World.grownBy.refl _ _, .inl rfl⟩
      rw [List.append_nil]
      exact hv
theorem wpList_appR {ops : Array Oper} {rest : List Oper} {o : Oper} {a : Act} {Q : Exit → Act → World → Prop} (hgd : o.guard = none) (tS tE : TypeId) (s y : Operand)
    (ho : o.op = .call { callee := .builtin .append, args := #[s, y], argTypes := #[tS, tS] }) (k b : Nat) (z : Value) (hu : Tryz.prog.underlying tS = some (.slice tE)) (hi : (Tryz.prog.info? tE).map (fun i => (i.zero, i.size, i.bytes)) = some (some z, k, b)) (hk : 0 < k) (hzs : z.cells.size = k) (hb : b ≤ 4096) (he : EncOk k enc)
    {v u : Value} {xs ys : List β} (hs : a.eval s = v) (hv : OwnG tE k enc w base v xs) (hy : a.eval y = u) (hx : RowG k enc w u ys) (hlen : xs.length + ys.length ≤ 33554432) (hbase : base ≤ w.heap.size)
    (h : ∀ va vc w', Hid (OwnG tE k enc w' base (.slice va (xs ++ ys).length vc) (xs ++ ys)) → Hid (w.grownBy w' v.ownBlock) → wpList Tryz.prog ops Q rest (a.put o.dst (.slice va (xs ++ ys).length vc)) w') : wpList Tryz.prog ops Q (o :: rest) a w :=
  wpList_plain hgd fun K hK => by
    obtain ⟨v', w', r1, h2, r3, _⟩ := run_appR tS tE o.type k b z hu hi hk hzs hb he hv hx hlen hbase
    obtain ⟨va, vc, rfl, _⟩ := h2.form
    unfold Oper.wp execOp
    simp only [ho, resolve, invoke, builtin, Sem.run_bind, Sem.run_pure, Result.andThen_ok, List.map_toArray, List.map_cons, List.map_nil, hs, hy, r1]
    exact hK _ _ (h va vc w' h2 r3)
theorem step_appR {ops : Array Oper} {o : Oper} {a : Act} {K : Act → World → Prop} {Q : Exit → Act → World → Prop} {E : Prop} (hw : Region.wanted o (yielded ops a.tmps) = true) (tS tE : TypeId) (s y : Operand)
    (ho : o.op = .call { callee := .builtin .append, args := #[s, y], argTypes := #[tS, tS] }) (k b : Nat) (z : Value) (hu : Tryz.prog.underlying tS = some (.slice tE)) (hi : (Tryz.prog.info? tE).map (fun i => (i.zero, i.size, i.bytes)) = some (some z, k, b)) (hk : 0 < k) (hzs : z.cells.size = k) (hb : b ≤ 4096) (he : EncOk k enc)
    {v u : Value} {xs ys : List β} (hs : a.eval s = v) (hv : OwnG tE k enc w base v xs) (hy : a.eval y = u) (hx : RowG k enc w u ys) (hlen : xs.length + ys.length ≤ 33554432) (hbase : base ≤ w.heap.size)
    (h : ∀ va vc w', Hid (OwnG tE k enc w' base (.slice va (xs ++ ys).length vc) (xs ++ ys)) → Hid (w.grownBy w' v.ownBlock) → K (a.put o.dst (.slice va (xs ++ ys).length vc)) w') : if Region.wanted o (yielded ops a.tmps) = true then Oper.wp Tryz.prog o a w K Q else E := by
  rw [if_pos hw]
  obtain ⟨v', w', r1, h2, r3, _⟩ := run_appR tS tE o.type k b z hu hi hk hzs hb he hv hx hlen hbase
  obtain ⟨va, vc, rfl, _⟩ := h2.form
  unfold Oper.wp execOp
  simp only [ho, resolve, invoke, builtin, Sem.run_bind, Sem.run_pure, Result.andThen_ok, List.map_toArray, List.map_cons, List.map_nil, hs, hy, r1]
  exact h va vc w' h2 r3
theorem wpList_appN {ops : Array Oper} {rest : List Oper} {o : Oper} {a : Act} {Q : Exit → Act → World → Prop} (hgd : o.guard = none) (tS tE : TypeId) (s y : Operand)
    (ho : o.op = .call { callee := .builtin .append, args := #[s, y], argTypes := #[tS, tS] }) (k b : Nat) (z : Value) (hu : Tryz.prog.underlying tS = some (.slice tE)) (hi : (Tryz.prog.info? tE).map (fun i => (i.zero, i.size, i.bytes)) = some (some z, k, b)) (hk : 0 < k) (hzs : z.cells.size = k) (hb : b ≤ 4096) (he : EncOk k enc)
    {u : Value} {ys : List β} (hs : a.eval s = .slice none 0 0) (hy : a.eval y = u) (hx : RowG k enc w u ys) (hlen : ys.length ≤ 33554432)
    (h : ∀ va vc w', Hid (OwnG tE k enc w' w.heap.size (.slice va ys.length vc) ys) → Hid (Below w.heap.size w w') → wpList Tryz.prog ops Q rest (a.put o.dst (.slice va ys.length vc)) w') : wpList Tryz.prog ops Q (o :: rest) a w :=
  wpList_appR (base := w.heap.size) hgd tS tE s y ho k b z hu hi hk hzs hb he (v := .slice none 0 0) (xs := []) hs (OwnG.nil _ _ _ _ _) hy hx (by simpa using hlen) (Nat.le_refl _) (fun va vc w' h1 h2 => h va vc w' h1 (Lib.hid ((Below.refl _ _).grown h2.out (Nat.le_refl _) (fun k e => by cases e))))
theorem step_appN {ops : Array Oper} {o : Oper} {a : Act} {K : Act → World → Prop} {Q : Exit → Act → World → Prop} {E : Prop} (hw : Region.wanted o (yielded ops a.tmps) = true) (tS tE : TypeId) (s y : Operand)
    (ho : o.op = .call { callee := .builtin .append, args := #[s, y], argTypes := #[tS, tS] }) (k b : Nat) (z : Value) (hu : Tryz.prog.underlying tS = some (.slice tE)) (hi : (Tryz.prog.info? tE).map (fun i => (i.zero, i.size, i.bytes)) = some (some z, k, b)) (hk : 0 < k) (hzs : z.cells.size = k) (hb : b ≤ 4096) (he : EncOk k enc)
    {u : Value} {ys : List β} (hs : a.eval s = .slice none 0 0) (hy : a.eval y = u) (hx : RowG k enc w u ys) (hlen : ys.length ≤ 33554432)
    (h : ∀ va vc w', Hid (OwnG tE k enc w' w.heap.size (.slice va ys.length vc) ys) → Hid (Below w.heap.size w w') → K (a.put o.dst (.slice va ys.length vc)) w') : if Region.wanted o (yielded ops a.tmps) = true then Oper.wp Tryz.prog o a w K Q else E :=
  step_appR (base := w.heap.size) hw tS tE s y ho k b z hu hi hk hzs hb he (v := .slice none 0 0) (xs := []) hs (OwnG.nil _ _ _ _ _) hy hx (by simpa using hlen) (Nat.le_refl _) (fun va vc w' h1 h2 => h va vc w' h1 (Lib.hid ((Below.refl _ _).grown h2.out (Nat.le_refl _) (fun k e => by cases e))))
end
end Go.Proofs.YtmfkggngjeolcaaGreatDoor
