/- Syntax: step. -/
import Derived.Test.YtmkibolkcjallaaGreatDoorSyLex
namespace Go.Proofs.YtmkibolkcjallaaGreatDoor
open Go.RowKit
/-- the list without its first lexeme -/
def tailV (g off m lc : Nat) : Value := if lc = 1 then .slice (some ⟨g, off, none⟩) 0 0 else .slice (some ⟨g, off + 5, none⟩) (m - 1) (lc - 1)
def openN (kind o : Int) : Int := if kind = 4 ∨ kind = 6 ∨ kind = 8 then o + 1 else if kind = 5 ∨ kind = 7 ∨ kind = 9 then o - 1 else o
theorem ParB.drew {w : World} {g : Nat} {p : Par} (h : ParB w g p) : ParB w.drew g p := h
theorem Par.set1 {w : World} {g : Nat} {p : Par} (h : ParB w g p) (v : Value) : ParB (w.setCell ⟨g, 1, none⟩ v) g { p with list := v } := by
  have h' : w.heap[g]? = _ := h
  simp [ParB, World.setCell, Array.getElem?_modify, h', Par.cells]
theorem Par.set4 {w : World} {g : Nat} {p : Par} (h : ParB w g p) (v : Int) : ParB (w.setCell ⟨g, 4, none⟩ (.int .i64 v)) g { p with kind := v } := by
  have h' : w.heap[g]? = _ := h
  simp [ParB, World.setCell, Array.getElem?_modify, h', Par.cells]
theorem Par.set5 {w : World} {g : Nat} {p : Par} (h : ParB w g p) (v : Int) : ParB (w.setCell ⟨g, 5, none⟩ (.int .u64 v)) g { p with n := v } := by
  have h' : w.heap[g]? = _ := h
  simp [ParB, World.setCell, Array.getElem?_modify, h', Par.cells]
theorem Par.set6 {w : World} {g : Nat} {p : Par} (h : ParB w g p) (v : ByteArray) : ParB (w.setCell ⟨g, 6, none⟩ (.string v)) g { p with s := v } := by
  have h' : w.heap[g]? = _ := h
  simp [ParB, World.setCell, Array.getElem?_modify, h', Par.cells]
theorem Par.set7 {w : World} {g : Nat} {p : Par} (h : ParB w g p) (v : Int) : ParB (w.setCell ⟨g, 7, none⟩ (.int .i64 v)) g { p with at_ := v } := by
  have h' : w.heap[g]? = _ := h
  simp [ParB, World.setCell, Array.getElem?_modify, h', Par.cells]
theorem Par.set8 {w : World} {g : Nat} {p : Par} (h : ParB w g p) (v : Int) : ParB (w.setCell ⟨g, 8, none⟩ (.int .i64 v)) g { p with till := v } := by
  have h' : w.heap[g]? = _ := h
  simp [ParB, World.setCell, Array.getElem?_modify, h', Par.cells]
theorem Par.set9 {w : World} {g : Nat} {p : Par} (h : ParB w g p) (v : Value) : ParB (w.setCell ⟨g, 9, none⟩ v) g { p with words := v } := by
  have h' : w.heap[g]? = _ := h
  simp [ParB, World.setCell, Array.getElem?_modify, h', Par.cells]
theorem Par.set10 {w : World} {g : Nat} {p : Par} (h : ParB w g p) (v : Bool) : ParB (w.setCell ⟨g, 10, none⟩ (.bool v)) g { p with naming := v } := by
  have h' : w.heap[g]? = _ := h
  simp [ParB, World.setCell, Array.getElem?_modify, h', Par.cells]
theorem Par.set11 {w : World} {g : Nat} {p : Par} (h : ParB w g p) (v : Int) : ParB (w.setCell ⟨g, 11, none⟩ (.int .i64 v)) g { p with open_ := v } := by
  have h' : w.heap[g]? = _ := h
  simp [ParB, World.setCell, Array.getElem?_modify, h', Par.cells]
theorem Par.set12 {w : World} {g : Nat} {p : Par} (h : ParB w g p) (v : Int) : ParB (w.setCell ⟨g, 12, none⟩ (.int .i64 v)) g { p with wrong := v } := by
  have h' : w.heap[g]? = _ := h
  simp [ParB, World.setCell, Array.getElem?_modify, h', Par.cells]
theorem Par.set13 {w : World} {g : Nat} {p : Par} (h : ParB w g p) (v : Int) : ParB (w.setCell ⟨g, 13, none⟩ (.int .i64 v)) g { p with why := v } := by
  have h' : w.heap[g]? = _ := h
  simp [ParB, World.setCell, Array.getElem?_modify, h', Par.cells]
set_option maxRecDepth 100000 in
set_option maxHeartbeats 2000000 in
theorem step_any {w : World} {pb : Nat} {par : Par} {g off m lc wl wc : Nat} {wa : Option Addr} {tk tn ta te : Int} {ts : ByteArray} (hp : ParB w pb par)
    (hl : par.list = .slice (some ⟨g, off, none⟩) m lc) (hm : 0 < m) (hmc : m ≤ lc) (hw : par.words = .slice wa wl wc)
    (h0 : w.cell? ⟨g, off, none⟩ = some (.int .i64 tk)) (h1 : w.cell? ⟨g, off + 1, none⟩ = some (.int .u64 tn)) (h2 : w.cell? ⟨g, off + 2, none⟩ = some (.string ts)) (h3 : w.cell? ⟨g, off + 3, none⟩ = some (.int .i64 ta)) (h4 : w.cell? ⟨g, off + 4, none⟩ = some (.int .i64 te))
    (ho : 0 ≤ par.open_ ∧ par.open_ ≤ 1000) (ho2 : openN tk par.open_ ≤ 32) :
    Calls Tryz.prog 43 #[.pointer (some ⟨pb, 0, none⟩)] w fun e w' => e = .returned (.tuple #[]) ∧ ParB w' pb { par with list := tailV g off m lc, kind := tk, n := tn, s := ts, at_ := ta, till := te, words := .slice wa 0 wc, naming := false, open_ := openN tk par.open_ } ∧ Keeps (fun k => k = pb) w w' := by
  have hh : w.heap[pb]? = _ := hp
  have d1 := hp.cell 1 (v := par.list) rfl
  rw [hl] at d1
  have d4 := hp.cell 4 (v := .int .i64 par.kind) rfl
  have d5 := hp.cell 5 (v := .int .u64 par.n) rfl
  have d6 := hp.cell 6 (v := .string par.s) rfl
  have d7 := hp.cell 7 (v := .int .i64 par.at_) rfl
  have d8 := hp.cell 8 (v := .int .i64 par.till) rfl
  have f1 := hp.thawed 1
  have f4 := hp.thawed 4
  have f5 := hp.thawed 5
  have f6 := hp.thawed 6
  have f7 := hp.thawed 7
  have f8 := hp.thawed 8
  have i4 : (0 : Int) < (m : Int) := by omega
  have i5 : (1 : Int) ≤ (m : Int) := by omega
  have HP : Hid (ParB w pb par) := hp
  have HO : Hid (openN tk par.open_ ≤ 32 ∧ 0 ≤ par.open_ ∧ par.open_ ≤ 1000) := ⟨ho2, ho⟩
  have HW : Hid (par.words = .slice wa wl wc) := hw
  obtain ⟨lv, hlv⟩ : ∃ lv, tailV g off m lc = lv := ⟨_, rfl⟩
  have HLv : Hid (tailV g off m lc = lv) := hlv
  have key : ∀ W1, ParB W1 pb { par with list := lv, kind := tk, n := tn, s := ts, at_ := ta, till := te } → Keeps (fun k => k = pb) w W1 → True := fun _ _ _ => trivial
  clear key
  by_cases hlc : lc = 1
  · obtain rfl : m = 1 := by omega
    subst hlc
    have hv2 : lv = .slice (some ⟨g, off, none⟩) 0 0 := by rw [← hlv]; unfold tailV; rw [if_pos rfl]
    have HV : Hid (lv = .slice (some ⟨g, off, none⟩) 0 0) := hv2
    clear hp hl hm hmc hw ho ho2 hlv hv2
    go_enter Tryz.func43, Tryz.ntmps43
    go_wp2_with fail
    go_region
    obtain ⟨W1, hW1⟩ : ∃ W1, ((((((w.setCell ⟨pb, 4, none⟩ (.int .i64 tk)).setCell ⟨pb, 5, none⟩ (.int .u64 tn)).setCell ⟨pb, 6, none⟩ (.string ts)).setCell ⟨pb, 7, none⟩ (.int .i64 ta)).setCell ⟨pb, 8, none⟩ (.int .i64 te)).setCell ⟨pb, 1, none⟩ (.slice (some ⟨g, off, none⟩) 0 0)).drew = W1 := ⟨_, rfl⟩
    have HP1 : Hid (ParB W1 pb { par with list := lv, kind := tk, n := tn, s := ts, at_ := ta, till := te }) := by
      show ParB _ _ _
      rw [← hW1, HV.out]
      have p1 := Par.set4 HP.out tk
      have p2 := Par.set5 p1 tn
      have p3 := Par.set6 p2 ts
      have p4 := Par.set7 p3 ta
      have p5 := Par.set8 p4 te
      have p6 := Par.set1 p5 (.slice (some ⟨g, off, none⟩) 0 0)
      exact ParB.drew p6
    have HK1 : Hid (Keeps (fun k => k = pb) w W1) := by
      show Keeps _ _ _
      rw [← hW1]
      exact ((((((Keeps.setCell _ _ 4 _).trans (Keeps.setCell _ _ 5 _) (fun _ _ e => e)).trans (Keeps.setCell _ _ 6 _) (fun _ _ e => e)).trans (Keeps.setCell _ _ 7 _) (fun _ _ e => e)).trans (Keeps.setCell _ _ 8 _) (fun _ _ e => e)).trans (Keeps.setCell _ _ 1 _) (fun _ _ e => e)).drew
    rw [hW1]
    clear hW1 hh d1 d4 d5 d6 d7 d8 f1 f4 f5 f6 f7 f8 h0 h1 h2 h3 h4
    have hh : W1.heap[pb]? = _ := HP1.out
    have d9 : W1.cell? ⟨pb, 9, none⟩ = some (.slice wa wl wc) := by rw [← HW.out]; exact HP1.out.cell 9 rfl
    have d10 := HP1.out.cell 10 (v := .bool par.naming) rfl
    have f9 := HP1.out.thawed 9
    have f10 := HP1.out.thawed 10
    have d4 := HP1.out.cell 4 (v := .int .i64 tk) rfl
    have d11 := HP1.out.cell 11 (v := .int .i64 par.open_) rfl
    have f11 := HP1.out.thawed 11
    have HP2 := Lib.hid (Par.set10 (Par.set9 HP1.out (.slice wa 0 wc)) false)
    have HK2 : Hid (∀ W, Keeps (fun k => k = pb) ((W1.setCell ⟨pb, 9, none⟩ (.slice wa 0 wc)).setCell ⟨pb, 10, none⟩ (.bool false)) W → Keeps (fun k => k = pb) w W) := fun W hW => ((HK1.out.trans (Keeps.setCell _ _ 9 _) (fun _ _ e => e)).trans (Keeps.setCell _ _ 10 _) (fun _ _ e => e)).trans hW (fun _ _ e => e)
    have hob := HO.out.2
    have k1 : wrap64 (par.open_ + 1) = par.open_ + 1 := by unfold wrap64; omega
    have k2 : wrap64 (par.open_ - 1) = par.open_ - 1 := by unfold wrap64; omega
    clear hob
    by_cases hA : tk = 4 ∨ tk = 6 ∨ tk = 8
    · have HE : Hid (openN tk par.open_ = par.open_ + 1) := by show _ = _; unfold openN; rw [if_pos hA]
      have io : ¬ 32 < par.open_ + 1 := by have := HO.out.1; rw [HE.out] at this; omega
      have HP3 := Lib.hid (Par.set11 HP2.out (par.open_ + 1))
      rcases hA with rfl | rfl | rfl
      all_goals
        go_wp2_with fail
        go_end0
        refine ⟨rfl, ?_, HK2.out _ (Keeps.setCell _ _ 11 _)⟩
        rw [HLv.out, HE.out]
        exact HP3.out
    · by_cases hB : tk = 5 ∨ tk = 7 ∨ tk = 9
      · have HE : Hid (openN tk par.open_ = par.open_ - 1) := by show _ = _; unfold openN; rw [if_neg hA, if_pos hB]
        have io : ¬ 32 < par.open_ - 1 := by have := HO.out.1; rw [HE.out] at this; omega
        have HP3 := Lib.hid (Par.set11 HP2.out (par.open_ - 1))
        clear hA
        rcases hB with rfl | rfl | rfl
        all_goals
          go_wp2_with fail
          go_end0
          refine ⟨rfl, ?_, HK2.out _ (Keeps.setCell _ _ 11 _)⟩
          rw [HLv.out, HE.out]
          exact HP3.out
      · have HE : Hid (openN tk par.open_ = par.open_) := by show _ = _; unfold openN; rw [if_neg hA, if_neg hB]
        have io : ¬ 32 < par.open_ := by have := HO.out.1; rw [HE.out] at this; omega
        have e4 : (tk == 4) = false := beq_eq_false_iff_ne.2 (fun e => hA (.inl e))
        have e6 : (tk == 6) = false := beq_eq_false_iff_ne.2 (fun e => hA (.inr (.inl e)))
        have e8 : (tk == 8) = false := beq_eq_false_iff_ne.2 (fun e => hA (.inr (.inr e)))
        have e5 : (tk == 5) = false := beq_eq_false_iff_ne.2 (fun e => hB (.inl e))
        have e7 : (tk == 7) = false := beq_eq_false_iff_ne.2 (fun e => hB (.inr (.inl e)))
        have e9 : (tk == 9) = false := beq_eq_false_iff_ne.2 (fun e => hB (.inr (.inr e)))
        clear hA hB
        go_wp2_with fail
        go_end0
        refine ⟨rfl, ?_, HK2.out _ (Keeps.refl _ _)⟩
        rw [HLv.out, HE.out]
        exact HP2.out
  · have hv2 : lv = .slice (some ⟨g, off + 5, none⟩) (m - 1) (lc - 1) := by rw [← hlv]; unfold tailV; rw [if_neg hlc]
    have HV : Hid (lv = .slice (some ⟨g, off + 5, none⟩) (m - 1) (lc - 1)) := hv2
    clear hp hl hm hmc hw ho ho2 hlv hv2
    go_enter Tryz.func43, Tryz.ntmps43
    go_wp2_with fail
    go_region
    obtain ⟨W1, hW1⟩ : ∃ W1, ((((((w.setCell ⟨pb, 4, none⟩ (.int .i64 tk)).setCell ⟨pb, 5, none⟩ (.int .u64 tn)).setCell ⟨pb, 6, none⟩ (.string ts)).setCell ⟨pb, 7, none⟩ (.int .i64 ta)).setCell ⟨pb, 8, none⟩ (.int .i64 te)).setCell ⟨pb, 1, none⟩ (.slice (some ⟨g, off + 5, none⟩) (m - 1) (lc - 1))).drew = W1 := ⟨_, rfl⟩
    have HP1 : Hid (ParB W1 pb { par with list := lv, kind := tk, n := tn, s := ts, at_ := ta, till := te }) := by
      show ParB _ _ _
      rw [← hW1, HV.out]
      have p1 := Par.set4 HP.out tk
      have p2 := Par.set5 p1 tn
      have p3 := Par.set6 p2 ts
      have p4 := Par.set7 p3 ta
      have p5 := Par.set8 p4 te
      have p6 := Par.set1 p5 (.slice (some ⟨g, off + 5, none⟩) (m - 1) (lc - 1))
      exact ParB.drew p6
    have HK1 : Hid (Keeps (fun k => k = pb) w W1) := by
      show Keeps _ _ _
      rw [← hW1]
      exact ((((((Keeps.setCell _ _ 4 _).trans (Keeps.setCell _ _ 5 _) (fun _ _ e => e)).trans (Keeps.setCell _ _ 6 _) (fun _ _ e => e)).trans (Keeps.setCell _ _ 7 _) (fun _ _ e => e)).trans (Keeps.setCell _ _ 8 _) (fun _ _ e => e)).trans (Keeps.setCell _ _ 1 _) (fun _ _ e => e)).drew
    rw [hW1]
    clear hW1 hh d1 d4 d5 d6 d7 d8 f1 f4 f5 f6 f7 f8 h0 h1 h2 h3 h4
    have hh : W1.heap[pb]? = _ := HP1.out
    have d9 : W1.cell? ⟨pb, 9, none⟩ = some (.slice wa wl wc) := by rw [← HW.out]; exact HP1.out.cell 9 rfl
    have d10 := HP1.out.cell 10 (v := .bool par.naming) rfl
    have f9 := HP1.out.thawed 9
    have f10 := HP1.out.thawed 10
    have d4 := HP1.out.cell 4 (v := .int .i64 tk) rfl
    have d11 := HP1.out.cell 11 (v := .int .i64 par.open_) rfl
    have f11 := HP1.out.thawed 11
    have HP2 := Lib.hid (Par.set10 (Par.set9 HP1.out (.slice wa 0 wc)) false)
    have HK2 : Hid (∀ W, Keeps (fun k => k = pb) ((W1.setCell ⟨pb, 9, none⟩ (.slice wa 0 wc)).setCell ⟨pb, 10, none⟩ (.bool false)) W → Keeps (fun k => k = pb) w W) := fun W hW => ((HK1.out.trans (Keeps.setCell _ _ 9 _) (fun _ _ e => e)).trans (Keeps.setCell _ _ 10 _) (fun _ _ e => e)).trans hW (fun _ _ e => e)
    have hob := HO.out.2
    have k1 : wrap64 (par.open_ + 1) = par.open_ + 1 := by unfold wrap64; omega
    have k2 : wrap64 (par.open_ - 1) = par.open_ - 1 := by unfold wrap64; omega
    clear hob
    by_cases hA : tk = 4 ∨ tk = 6 ∨ tk = 8
    · have HE : Hid (openN tk par.open_ = par.open_ + 1) := by show _ = _; unfold openN; rw [if_pos hA]
      have io : ¬ 32 < par.open_ + 1 := by have := HO.out.1; rw [HE.out] at this; omega
      have HP3 := Lib.hid (Par.set11 HP2.out (par.open_ + 1))
      rcases hA with rfl | rfl | rfl
      all_goals
        go_wp2_with fail
        go_end0
        refine ⟨rfl, ?_, HK2.out _ (Keeps.setCell _ _ 11 _)⟩
        rw [HLv.out, HE.out]
        exact HP3.out
    · by_cases hB : tk = 5 ∨ tk = 7 ∨ tk = 9
      · have HE : Hid (openN tk par.open_ = par.open_ - 1) := by show _ = _; unfold openN; rw [if_neg hA, if_pos hB]
        have io : ¬ 32 < par.open_ - 1 := by have := HO.out.1; rw [HE.out] at this; omega
        have HP3 := Lib.hid (Par.set11 HP2.out (par.open_ - 1))
        clear hA
        rcases hB with rfl | rfl | rfl
        all_goals
          go_wp2_with fail
          go_end0
          refine ⟨rfl, ?_, HK2.out _ (Keeps.setCell _ _ 11 _)⟩
          rw [HLv.out, HE.out]
          exact HP3.out
      · have HE : Hid (openN tk par.open_ = par.open_) := by show _ = _; unfold openN; rw [if_neg hA, if_neg hB]
        have io : ¬ 32 < par.open_ := by have := HO.out.1; rw [HE.out] at this; omega
        have e4 : (tk == 4) = false := beq_eq_false_iff_ne.2 (fun e => hA (.inl e))
        have e6 : (tk == 6) = false := beq_eq_false_iff_ne.2 (fun e => hA (.inr (.inl e)))
        have e8 : (tk == 8) = false := beq_eq_false_iff_ne.2 (fun e => hA (.inr (.inr e)))
        have e5 : (tk == 5) = false := beq_eq_false_iff_ne.2 (fun e => hB (.inl e))
        have e7 : (tk == 7) = false := beq_eq_false_iff_ne.2 (fun e => hB (.inr (.inl e)))
        have e9 : (tk == 9) = false := beq_eq_false_iff_ne.2 (fun e => hB (.inr (.inr e)))
        clear hA hB
        go_wp2_with fail
        go_end0
        refine ⟨rfl, ?_, HK2.out _ (Keeps.refl _ _)⟩
        rw [HLv.out, HE.out]
        exact HP2.out
end Go.Proofs.YtmkibolkcjallaaGreatDoor
