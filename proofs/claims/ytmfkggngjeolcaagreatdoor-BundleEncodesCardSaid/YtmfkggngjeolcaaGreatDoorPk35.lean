import Derived.Test.YtmfkggngjeolcaaGreatDoorPk28
import Derived.Test.YtmfkggngjeolcaaGreatDoorPk34
/- Bundle: sections there and back. Plain. Own work. -/
namespace Go.Proofs.YtmfkggngjeolcaaGreatDoor
open Bn Dc
set_option linter.unusedVariables false
set_option linter.unusedSimpArgs false
namespace Dc
def updK (J I : Im) : Nat → Im
  | 1 => { J with rams := I.rams, devs := I.devs }
  | 2 => { J with subs := I.subs }
  | 3 => { J with ports := I.ports }
  | 4 => { J with regs := I.regs }
  | 5 => { J with chs := I.chs }
  | 6 => { J with irqs := I.irqs }
  | 7 => { J with plans := I.plans, master := I.master, start := I.start }
  | _ => { J with tabs := I.tabs }
section
variable {q : Pt} {s : D}
theorem num8 {f : Nat → Nat} (hf : tbOk f) : ∀ (n : Nat), n ≤ 512 → ∀ (i : Nat), i < n → ∀ u, Pl.num 8 ((tb f n ++ u).drop (8 * i)) = f i
  | 0, _, i, hi, u => by omega
  | n + 1, hn, i, hi, u => by
    rw [tb, List.append_assoc]
    by_cases e : i = n
    · subst e
      have hl : (tb f i).length = 8 * i := by rw [tb_eq, tbN_len]
      rw [List.drop_left' hl]
      exact Pl.num_le 8 (f i) u (by have := hf i (by omega); omega)
    · exact num8 hf n (by omega) i (by omega) _
/-- a table as it is read -/
def nrm (f : Nat → Nat) : Nat → Nat := numT (tb f 512)
theorem tabB_len (f : Nat → Nat) : (tabB f).length = 4096 := by rw [tabB, tb_eq, tbN_len]
theorem tb_num : ∀ (n : Nat) (zs : List Nat), (∀ z ∈ zs, z < 256) → 8 * n ≤ zs.length → tb (numT zs) n = zs.take (8 * n)
  | 0, zs, _, _ => by simp [tb]
  | n + 1, zs, hz, hl => by
    rw [tb, tb_num n zs hz (by omega), show 8 * (n + 1) = 8 * n + 8 by omega, List.take_add]
    congr 1
    exact le_num 8 (zs.drop (8 * n)) (fun z h => hz z (List.mem_of_mem_drop h)) (by rw [List.length_drop]; omega)
end
end Dc
end Go.Proofs.YtmfkggngjeolcaaGreatDoor
/- Bundle: a section that is taken stood there so. Plain. Own work. -/
namespace Go.Proofs.YtmfkggngjeolcaaGreatDoor
open Bn Dc
set_option linter.unusedVariables false
set_option linter.unusedSimpArgs false
namespace Dc
def kindK (I : Im) : Nat → Prop
  | 1 => (∀ x ∈ I.rams, rgOk x) ∧ ∀ x ∈ I.devs, rgOk x
  | 4 => ∀ x ∈ I.regs, gdOk x
  | 8 => ∀ x ∈ I.tabs, tbOk x
  | _ => True
section
variable {q : Pt} {s : D}
theorem Ah.whole {l : List Nat} (h : Ah q s l) (hp : s.pos = 0) (he : s.pos + l.length = q.Z.length) : q.Z = l := by
  obtain ⟨u, hu⟩ := h.eq
  rw [hp, List.drop_zero] at hu
  have hl := congrArg List.length hu
  rw [List.length_append] at hl
  have : u = [] := List.eq_nil_of_length_eq_zero (by omega)
  rw [hu, this, List.append_nil]
end
end Dc
end Go.Proofs.YtmfkggngjeolcaaGreatDoor
/- Bundle: all parts are read, one behind the other (written by parts/gen_dcall.py). Own work. -/
namespace Go.Proofs.YtmfkggngjeolcaaGreatDoor
open Go.RowKit Bn Dc
set_option linter.unusedVariables false
set_option linter.unusedSimpArgs false
namespace Dc
def prA (bs : List Nat) (k : Nat) : A := partsA (hd0 bs).E bs k (headA bs)
theorem pr_zero {bs : List Nat} : ∀ {k : Nat}, (prA bs k).why = 0 → (headA bs).why = 0
  | 0, h => h
  | k + 1, h => by
    by_cases e : (prA bs k).why = 0
    · exact pr_zero e
    · rw [show prA bs (k + 1) = prA bs k from partsA_stop (k := k) e (k + 1) (by omega)] at h
      exact absurd h e
end Dc
def funR (kb : Nat) : Array Value := #[Value.func (.func 113) #[.pointer (some ⟨kb, 0, none⟩)] #[], Value.func (.func 114) #[.pointer (some ⟨kb, 0, none⟩)] #[], Value.func (.func 115) #[.pointer (some ⟨kb, 0, none⟩)] #[], Value.func (.func 116) #[.pointer (some ⟨kb, 0, none⟩)] #[], Value.func (.func 117) #[.pointer (some ⟨kb, 0, none⟩)] #[], Value.func (.func 118) #[.pointer (some ⟨kb, 0, none⟩)] #[], Value.func (.func 119) #[.pointer (some ⟨kb, 0, none⟩)] #[], Value.func (.func 120) #[.pointer (some ⟨kb, 0, none⟩)] #[], Value.func (.func 121) #[.pointer (some ⟨kb, 0, none⟩)] #[]]
def nilR : Array Value := #[.nilFunc, .nilFunc, .nilFunc, .nilFunc, .nilFunc, .nilFunc, .nilFunc, .nilFunc, .nilFunc]
/-- where the loop over the parts stands -/
def AtI (B kb : Nat) (raw : Value) (bs : List Nat) (w0 : World) (i : Nat) (wr : World) : Prop :=
  (i = 0 ∧ Dn B kb raw im0 (en0.set 3 (.int .i64 160)) 0 (.pointer none) w0 0 0 0 wr) ∨ (1 ≤ i ∧ (prA bs (i - 1)).why = 0 ∧ ∃ im en pt pv, EnR en (hd0 bs).E ∧ ImD wr im (prA bs (i - 1)).J ∧ Dn B kb raw im en pt pv w0 0 (prA bs (i - 1)).sec (prA bs (i - 1)).ad wr)
/-- what all leaves -/
def AllQ (B kb : Nat) (raw : Value) (bs : List Nat) (w0 : World) (w' : World) : Prop := ∃ im en pt pv, Dn B kb raw im en pt pv w0 (decA bs).why (decA bs).sec (decA bs).ad w' ∧ ((decA bs).why = 0 → ImD w' im (decA bs).J)
section
variable {B kb : Nat} {raw : Value} {im en : List Value} {pt : Int} {pv : Value} {q : Pt} {p g : Nat} {w0 : World} {s : D} {w w' : World} {why sec ad : Int}
theorem Dn.here (h : Dn B kb raw im en pt pv w0 why sec ad w) : Dn B kb raw im en pt pv w why sec ad w := ⟨h.blk, h.him, h.hen, h.hB, Fd.refl _ _⟩
end
end Go.Proofs.YtmfkggngjeolcaaGreatDoor
