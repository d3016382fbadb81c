/- Bundle: the image that is laid down; its sections. Own work. -/
import Derived.Test.YtinjhgimhboigaaDoorBnTbs
namespace Go.Proofs.YtinjhgimhboigaaDoor
open Go.RowKit Bn
set_option linter.unusedVariables false
set_option linter.unusedSimpArgs false
/-- the image's cells, and what they lead to -/
structure ImG (B : Nat) (w0 : World) (im : List Value) (I : Im) : Prop where
  base : im[0]? = some (.int .u64 (I.base : Int)) ∧ I.base ≤ 18446744073709551615
  rams : ∃ v, im[1]? = some v ∧ (∀ W, Fx B w0 W → RowG 2 rgE W v I.rams) ∧ ∀ x ∈ I.rams, rgOk x
  devs : ∃ v, im[2]? = some v ∧ (∀ W, Fx B w0 W → RowG 2 rgE W v I.devs) ∧ ∀ x ∈ I.devs, rgOk x
  subs : ∃ v, im[3]? = some v ∧ (∀ W, Fx B w0 W → RowG 6 tnE W v I.subs) ∧ ∀ x ∈ I.subs, tnOk x
  ports : ∃ v, im[4]? = some v ∧ (∀ W, Fx B w0 W → RowG 1 poE W v I.ports) ∧ ∀ x ∈ I.ports, I64R x
  regs : ∃ v, im[5]? = some v ∧ (∀ W, Fx B w0 W → RowG 4 gdE W v I.regs) ∧ ∀ x ∈ I.regs, gdOk x
  chs : ∃ v, im[6]? = some v ∧ (∀ W, Fx B w0 W → RowG 5 lkE W v I.chs) ∧ ∀ x ∈ I.chs, lkOk x
  irqs : ∃ v, im[7]? = some v ∧ (∀ W, Fx B w0 W → RowG 5 lkE W v I.irqs) ∧ ∀ x ∈ I.irqs, lkOk x
  plans : ∃ v wz, im[8]? = some v ∧ PlG wz v I.plans ∧ (∀ W, Fx B w0 W → Below wz.heap.size wz W) ∧ ∀ x ∈ I.plans, scOk x
  master : im[9]? = some (.int .i64 I.master) ∧ I64R I.master
  start : im[10]? = some (.int .i64 I.start) ∧ I64R I.start
  tabs : ∃ v, im[11]? = some v ∧ (∀ W, Fx B w0 W → TbG W v I.tabs) ∧ ∀ x ∈ I.tabs, tbOk x
/-- a bound of all its bytes -/
def szI (I : Im) : Nat := 1000 + 16 * I.rams.length + 16 * I.devs.length + 8 * I.subs.length + 8 * I.ports.length + gsum I.regs + 8 * I.chs.length + 8 * I.irqs.length + psum I.plans + 4096 * I.tabs.length
def secS (I : Im) : Nat → S → S
  | 0 => roomS I
  | 1 => busS I
  | 2 => subsS I
  | 3 => portsS I
  | 4 => regsS I
  | 5 => chsS I
  | 6 => irqsS I
  | 7 => plansS I
  | _ => tabsS I
theorem lanesN_eq (I : Im) : lanesN I = lanesL I.plans := by
  unfold lanesN
  cases I.plans <;> rfl
theorem sec_len (I : Im) (k : Nat) (s : S) : (secS I k s).1.length ≤ s.1.length + szI I := by
  unfold szI
  match k with
  | 0 => show (roomS I s).1.length ≤ _; rw [roomS, zeros_len, field_len]; omega
  | 1 => show (busS I s).1.length ≤ _; rw [busS, each_len rangeS_len, each_len rangeS_len, zeros_len, half_len, half_len]; omega
  | 2 => show (subsS I s).1.length ≤ _; rw [subsS, each_len tenS_len, many_len]; omega
  | 3 => show (portsS I s).1.length ≤ _; rw [portsS, each_len portS_len, many_len, field_len]; omega
  | 4 =>
    show (regsS I s).1.length ≤ _
    have := gds_le I.regs (manyS I.regs.length s)
    rw [many_len] at this
    rw [regsS]
    omega
  | 5 => show (chsS I s).1.length ≤ _; rw [chsS, each_len chS_len, many_len]; omega
  | 6 => show (irqsS I s).1.length ≤ _; rw [irqsS, each_len iqS_len, many_len]; omega
  | 7 => show (plansS I s).1.length ≤ _; rw [plansS, plans_len, half_len, none_len, half_len, half_len]; omega
  | k + 8 => show (tabsS I s).1.length ≤ _; rw [tabsS, each_len tab_len]; omega
section
variable {B kb : Nat} {im : List Value} {o : Option Nat} {en : List Value} {w0 : World} {s : S} {w : World} {I : Im}
theorem sec0X (hI : ImG B w0 im I) (h : Sx B kb im o en w0 s w) (hl : s.1.length + szI I ≤ 269000000000) : Calls Tryd.prog 16 #[.pointer (some ⟨kb, 0, none⟩)] w fun e w' => e = .returned (.tuple #[]) ∧ Sx B kb im o en w0 (secS I 0 s) w' := by
  unfold szI at hl
  exact roomX h hI.base.1 hI.base.2 (by omega)
theorem sec1X (hI : ImG B w0 im I) (h : Sx B kb im o en w0 s w) (hl : s.1.length + szI I ≤ 269000000000) : Calls Tryd.prog 17 #[.pointer (some ⟨kb, 0, none⟩)] w fun e w' => e = .returned (.tuple #[]) ∧ Sx B kb im o en w0 (secS I 1 s) w' := by
  unfold szI at hl
  obtain ⟨v, h1, h2, h3⟩ := hI.rams
  obtain ⟨u, g1, g2, g3⟩ := hI.devs
  exact busX h h1 g1 h2 g2 h3 g3 (by omega)
theorem sec2X (hI : ImG B w0 im I) (h : Sx B kb im o en w0 s w) (hl : s.1.length + szI I ≤ 269000000000) : Calls Tryd.prog 18 #[.pointer (some ⟨kb, 0, none⟩)] w fun e w' => e = .returned (.tuple #[]) ∧ Sx B kb im o en w0 (secS I 2 s) w' := by
  unfold szI at hl
  obtain ⟨v, h1, h2, h3⟩ := hI.subs
  exact subjectsX h h1 h2 h3 (by omega)
theorem sec3X (hI : ImG B w0 im I) (h : Sx B kb im o en w0 s w) (hl : s.1.length + szI I ≤ 269000000000) : Calls Tryd.prog 19 #[.pointer (some ⟨kb, 0, none⟩)] w fun e w' => e = .returned (.tuple #[]) ∧ Sx B kb im o en w0 (secS I 3 s) w' := by
  unfold szI at hl
  obtain ⟨v, h1, h2, h3⟩ := hI.ports
  obtain ⟨u, g1, g2, _⟩ := hI.devs
  obtain ⟨ao, cap, rfl, _⟩ := g2 w h.fr
  exact portsX h h1 g1 h2 h3 (by omega)
theorem sec4X (hI : ImG B w0 im I) (h : Sx B kb im o en w0 s w) (hl : s.1.length + szI I ≤ 269000000000) : Calls Tryd.prog 20 #[.pointer (some ⟨kb, 0, none⟩)] w fun e w' => e = .returned (.tuple #[]) ∧ Sx B kb im o en w0 (secS I 4 s) w' := by
  unfold szI at hl
  obtain ⟨v, h1, h2, h3⟩ := hI.regs
  exact regionsX h h1 h2 h3 (by omega)
theorem sec5X (hI : ImG B w0 im I) (h : Sx B kb im o en w0 s w) (hl : s.1.length + szI I ≤ 269000000000) : Calls Tryd.prog 21 #[.pointer (some ⟨kb, 0, none⟩)] w fun e w' => e = .returned (.tuple #[]) ∧ Sx B kb im o en w0 (secS I 5 s) w' := by
  unfold szI at hl
  obtain ⟨v, h1, h2, h3⟩ := hI.chs
  exact channelsX h h1 h2 h3 (by omega)
theorem sec6X (hI : ImG B w0 im I) (h : Sx B kb im o en w0 s w) (hl : s.1.length + szI I ≤ 269000000000) : Calls Tryd.prog 22 #[.pointer (some ⟨kb, 0, none⟩)] w fun e w' => e = .returned (.tuple #[]) ∧ Sx B kb im o en w0 (secS I 6 s) w' := by
  unfold szI at hl
  obtain ⟨v, h1, h2, h3⟩ := hI.irqs
  exact irqsX h h1 h2 h3 (by omega)
theorem sec7X (hI : ImG B w0 im I) (h : Sx B kb im o en w0 s w) (hl : s.1.length + szI I ≤ 269000000000) : Calls Tryd.prog 23 #[.pointer (some ⟨kb, 0, none⟩)] w fun e w' => e = .returned (.tuple #[]) ∧ Sx B kb im o en w0 (secS I 7 s) w' := by
  unfold szI at hl
  obtain ⟨v, wz, h1, h2, h3, h4⟩ := hI.plans
  have := plansX h h1 hI.master.1 hI.start.1 h2 h3 h4 hI.master.2 hI.start.2 (by omega)
  show Calls _ _ _ _ (fun e w' => _ ∧ Sx B kb im o en w0 (plansS I s) w')
  rw [plansS, lanesN_eq]
  exact this
theorem sec8X (hI : ImG B w0 im I) (h : Sx B kb im o en w0 s w) (hl : s.1.length + szI I ≤ 269000000000) : Calls Tryd.prog 24 #[.pointer (some ⟨kb, 0, none⟩)] w fun e w' => e = .returned (.tuple #[]) ∧ Sx B kb im o en w0 (secS I 8 s) w' := by
  unfold szI at hl
  obtain ⟨v, h1, h2, h3⟩ := hI.tabs
  exact tablesX h h1 h2 h3 (by omega)
end
end Go.Proofs.YtinjhgimhboigaaDoor
